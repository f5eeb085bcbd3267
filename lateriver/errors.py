"""What Lateriver refuses, a class for each kind of refusal."""


class RiverError(ValueError):
    """Any refusal."""


class NoSource(RiverError):
    """What are no sources, or no name of a source."""


class NoRow(RiverError):
    """What is no row."""


class NoTerm(RiverError):
    """What is no reckoning, or no condition."""


class NoQuestion(RiverError):
    """What is no question, or none of the sort that is asked for."""


class NoText(RiverError):
    """What is no text of the thing that is to be read."""


class NoLetter(RiverError):
    """What is no letter, or none that can be meant."""


class NoMark(RiverError):
    """A mark, or an end, that cannot come any more."""


class NoSpot(RiverError):
    """What is no spot, or no place in a tree."""


class NoRule(RiverError):
    """What is no rule, or a rule that does not fit."""


class NoKey(RiverError):
    """What is no key, or no part's number."""


class NoAsk(RiverError):
    """What a log cannot be asked, or told, any more."""
