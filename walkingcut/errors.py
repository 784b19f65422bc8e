"""The errors. Each has just the fields that it is made with."""


class CutError(ValueError):
    """What all errors of this package are."""


class BadLog(CutError):
    """What is passed makes no log: `part` is "many" or "spills"."""

    def __init__(self, part):
        self.part = part


class OtherRack(CutError):
    """Two logs are not of one rack."""

    def __init__(self):
        pass


class NoLot(CutError):
    """This is no lot."""

    def __init__(self):
        pass


class NoArrangement(CutError):
    """This is no arrangement of the log's rack."""

    def __init__(self):
        pass


class NoHistory(CutError):
    """This is no history: `number` is its first wrong row, -1 if it has not as many rows as spills."""

    def __init__(self, number):
        self.number = number


class NoVial(CutError):
    """This is no vial of the rack."""

    def __init__(self):
        pass


class NoCut(CutError):
    """This is no cut of the rack."""

    def __init__(self):
        pass


class NoWalk(CutError):
    """This is no walk through the log."""

    def __init__(self):
        pass


class NoPrices(CutError):
    """These are no prices, or not of as many places as the others."""

    def __init__(self):
        pass


class NoNumber(CutError):
    """This is no number of the kind that is asked for."""

    def __init__(self):
        pass


class NoClaims(CutError):
    """These are no claims about the rack."""

    def __init__(self):
        pass


class Barred(CutError):
    """The claims cannot be true."""

    def __init__(self):
        pass


class NoPlace(CutError):
    """This is no place of the rack."""

    def __init__(self):
        pass


class TooMany(CutError):
    """There are more than `most` of what is bounded."""

    def __init__(self, most):
        self.most = most


class NoColours(CutError):
    """These are no colours of the vials."""

    def __init__(self):
        pass


class NoSeen(CutError):
    """This is not what can be seen of the colours."""

    def __init__(self):
        pass


class NoSizes(CutError):
    """These are no sizes of crates."""

    def __init__(self):
        pass


class NoCrated(CutError):
    """This is no crating of the vials."""

    def __init__(self):
        pass


class NoChoices(CutError):
    """These are no choices of places."""

    def __init__(self):
        pass


class NoHand(CutError):
    """This is no hand."""

    def __init__(self):
        pass


class NeverComes(CutError):
    """This arrangement cannot come."""

    def __init__(self):
        pass


class BadMixing(CutError):
    """What is passed makes no mixing: `part` is "many" or "lots"."""

    def __init__(self, part):
        self.part = part


class NoVials(CutError):
    """This is no lot of vials."""

    def __init__(self):
        pass


class NoPlaces(CutError):
    """This is no lot of places."""

    def __init__(self):
        pass


class Taken(CutError):
    """The vial or the place is in a claim."""

    def __init__(self):
        pass


class NotClaimed(CutError):
    """The vial is in no claim."""

    def __init__(self):
        pass


class NoSpill(CutError):
    """This is no spill of the rack."""

    def __init__(self):
        pass


class NothingDone(CutError):
    """There is nothing to take back."""

    def __init__(self):
        pass


class BadText(CutError):
    """The text is wrong: `line` is its first wrong line, from 1 on, 0 for what is no string."""

    def __init__(self, line):
        self.line = line


class NoLine(CutError):
    """This is no line that the desk knows."""

    def __init__(self):
        pass


class NoName(CutError):
    """There is no log of this `name`."""

    def __init__(self, name):
        self.name = name


class NoBounds(CutError):
    """These are no bounds of the vials."""

    def __init__(self):
        pass


class NoNotes(CutError):
    """These are no notes of the log."""

    def __init__(self):
        pass
