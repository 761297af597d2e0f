"""Runs: beats one behind the other, from a standing on."""

from ringmeet.beats import beat, begun, is_met


def walked(web, machine, standing, beats):
    """Tell the wholes behind 0, 1, .. so many beats."""
    wholes = [begun(standing)]
    for k in range(beats):
        wholes.append(beat(web, machine, wholes[-1]))
    return tuple(wholes)


def run(web, machine, standing, most):
    """Tell by when walkers meet, or that they go round, or that it is open behind most beats."""
    whole = begun(standing)
    known = {}
    for passed in range(most + 1):
        if is_met(whole):
            return ("met", passed)
        if whole in known:
            return ("round", known[whole], passed)
        known[whole] = passed
        whole = beat(web, machine, whole)
    return ("open", most)


def most_chalk(web, machine, standing, beats):
    """Tell how many rooms are chalked at most behind 0, 1, .. so many beats."""
    return max([len(chalk) for walkers, chalk in walked(web, machine, standing, beats)])
