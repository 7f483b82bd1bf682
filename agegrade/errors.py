"""The refusals of the program: one class for each, all under AgeError."""


class AgeError(ValueError):
    """Any refusal."""


class BadRule(AgeError):
    """A rule is out of its bounds."""


class NoGrade(AgeError):
    """The rule has no such grade."""


class BadYears(AgeError):
    """A count of years is out of its bounds."""


class Overdue(AgeError):
    """The next feast would come too late."""


class TooSoon(AgeError):
    """Too few years have gone since the latest feast."""


class NoFeast(AgeError):
    """There is no such feast to tell of."""


class NoYear(AgeError):
    """The year is not one of those that are let."""


class NoSet(AgeError):
    """Nobody is admitted into this set now."""


class NoMan(AgeError):
    """No such man has come."""


class Dead(AgeError):
    """The man is dead."""


class NotFathering(AgeError):
    """The man's set is in no grade in which men father sons."""


class NotWaiting(AgeError):
    """The boy's set has opened."""


class BadPosts(AgeError):
    """The posts are too many, or one belongs to no grade of the rule."""


class NoPost(AgeError):
    """The house has no such post."""


class WrongGrade(AgeError):
    """The man's set is not in the post's grade."""


class Posted(AgeError):
    """The man has a post."""


class Filled(AgeError):
    """Somebody has the post."""


class Vacant(AgeError):
    """Nobody has the post."""


class BadMany(AgeError):
    """A count is out of its bounds."""


class BadAges(AgeError):
    """The ages are out of their bounds."""


class BadWish(AgeError):
    """A wish is out of its bounds."""


class BadBeat(AgeError):
    """The beat is out of the rule's years."""


class BadBand(AgeError):
    """A band, or an entry age, is out of its bounds."""


class BadDeed(AgeError):
    """A deed is not of the form of any deed."""


class Nothing(AgeError):
    """There is no deed to take back, or to do again."""


class BadText(AgeError):
    """A text is no book's text; row is the number of its first wrong row."""

    def __init__(self, row):
        self.row = row
