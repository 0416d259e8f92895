"""The errors of the package, each directly under BoxError, so that one class catches them all."""


class BoxError(ValueError):
    """What each error of this package is."""


class InvalidShafts(BoxError):
    """What is given as the number of shafts is none."""


class InvalidBox(BoxError):
    """What is given as a box is none."""


class InvalidWork(BoxError):
    """What is given as a work is none of these shafts."""


class InvalidIndex(BoxError):
    """What is given as the index of a work is none of the box."""


class InvalidDifferences(BoxError):
    """What is given is no list of differences of these shafts."""


class InvalidLocks(BoxError):
    """What is given is no ascending list of locks of these shafts."""


class InvalidLock(BoxError):
    """What is given as a lock is none that stands in the list of locks."""


class InvalidGears(BoxError):
    """What is given is no list of lists of locks."""


class InvalidShaft(BoxError):
    """What is given as a shaft is none that may stand there."""


class InvalidOrder(BoxError):
    """What is given as an order of the shafts is none."""


class InvalidRatios(BoxError):
    """What is given as ratios of the box is no list of them."""


class InvalidFraction(BoxError):
    """What is given as a fraction is none that may stand there."""


class InvalidSpeeds(BoxError):
    """What is given as speeds of the shafts is no list of them."""


class InvalidLooks(BoxError):
    """What is given is no list of looks at the box."""


class InvalidForm(BoxError):
    """What is given as a form, or as its terms, is none."""


class InvalidNumber(BoxError):
    """What is given as a number is none that may stand there."""


class Unbalanced(BoxError):
    """The numbers of works and locks do not fit the number of shafts."""


class NotDriven(BoxError):
    """The gear is not driven as the question needs it."""


class NotNeighbours(BoxError):
    """The two gears do not differ by just one lock."""


class SharedUnknown(BoxError):
    """An unknown stands in both forms."""


class NotTelling(BoxError):
    """The speed or the share does not tell what was asked for."""


class NotEngaged(BoxError):
    """The lock to be put off is not on."""


class NothingToUndo(BoxError):
    """There is no deed that could be taken back."""


class InvalidCommand(BoxError):
    """The command is none of the console."""


class NotReady(BoxError):
    """The console has no bench yet."""


class Contradiction(BoxError):
    """A look that is no motion at ratios that fit to the looks ahead; at is its index."""

    def __init__(self, at):
        super().__init__("this look fits no ratios")
        self.at = at


class Refused(BoxError):
    """A deed that a sure bench refuses; reason is the word that the bench would have."""

    def __init__(self, reason):
        super().__init__("the bench would not be sure")
        self.reason = reason


class InvalidWords(BoxError):
    """A text that cannot be read; place is the index of the first wrong word."""

    def __init__(self, place):
        super().__init__("these words cannot be read")
        self.place = place
