"""The refusals, each straight under MeetError, so that taking one never takes another."""


class MeetError(ValueError):
    """Whatever the program refuses."""


class Alike(MeetError):
    """Two rooms of a field look alike for ever; number is the field's."""

    def __init__(self, number):
        MeetError.__init__(self, f"field {number} has two rooms of one colour")
        self.number = number


class NoText(MeetError):
    """A text that isn't written as it must be; row is the number of the row at fault."""

    def __init__(self, row):
        MeetError.__init__(self, f"the text is wrong at row {row}")
        self.row = row


class NoRow(MeetError):
    """A row that the desk doesn't know."""


class Lacks(MeetError):
    """A web, a stand or a machine is wanted, and there is none."""
