"""Ringmeet: walkers without names that meet, or never can."""
