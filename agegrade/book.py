"""A book: a house kept by deeds that can be taken back, and its text."""

from agegrade.errors import AgeError, BadDeed, BadPosts, BadRule, BadText, Nothing
from agegrade.house import House
from agegrade.muster import fill
from agegrade.rules import Rule, check_stays

FIRST_DEED_ROW = 3
RULE_NUMBERS = 6


def wait_years(house, numbers):
    """Let years go by."""
    return house.wait(numbers[0])


def hold_feast(house, numbers):
    """Hold a feast."""
    return house.hold()


def admit_stranger(house, numbers):
    """Admit a stranger."""
    return house.admit(numbers[0], numbers[1])


def bear_son(house, numbers):
    """Let a son be born."""
    return house.bear(numbers[0])


def adopt_boy(house, numbers):
    """Let a boy be adopted."""
    return house.adopt(numbers[0], numbers[1])


def let_die(house, numbers):
    """Let a man die."""
    return house.die(numbers[0])


def give_post(house, numbers):
    """Give a post to a man."""
    return house.appoint(numbers[0], numbers[1])


def give_back_post(house, numbers):
    """Let a post be given back."""
    return house.resign(numbers[0])


def fill_posts(house, numbers):
    """Fill the vacant posts."""
    return fill(house)


ACTS = {
    "wait": wait_years,
    "hold": hold_feast,
    "admit": admit_stranger,
    "bear": bear_son,
    "adopt": adopt_boy,
    "die": let_die,
    "appoint": give_post,
    "resign": give_back_post,
    "fill": fill_posts,
}

# How many numbers stand behind the first text of a deed.
COUNTS = {
    "wait": 1,
    "hold": 0,
    "admit": 2,
    "bear": 1,
    "adopt": 2,
    "die": 1,
    "appoint": 2,
    "resign": 1,
    "fill": 0,
}


def check_deed(deed):
    """Refuse what has not the form of any deed."""
    if not deed:
        raise BadDeed("an empty tuple is no deed")
    if deed[0] not in COUNTS:
        raise BadDeed(f"there is no deed {deed[0]}")
    if len(deed) - 1 != COUNTS[deed[0]]:
        raise BadDeed(f"{deed[0]} has {COUNTS[deed[0]]} numbers, not {len(deed) - 1}")


def row_of(things):
    """One row of a book's text."""
    return " ".join([str(thing) for thing in things])


class Book:
    """A house that is kept by deeds."""

    def __init__(self, rule, posts):
        # With each deed the house behind it is kept, so that nothing need be done anew to take one back.
        self.start = House(rule, posts)
        self.done = []
        self.undone = []

    def do(self, deed):
        """Do a deed; tell what the house gives for it."""
        check_deed(deed)
        house = self.house()
        act = ACTS[deed[0]]
        told = act(house, deed[1:])
        self.done.append((deed, house))
        self.undone = []
        return told

    def back(self):
        """Take the last deed back, and tell it."""
        if not self.done:
            raise Nothing("no deed is done")
        self.undone.append(self.done.pop())
        return self.undone[-1][0]

    def again(self):
        """Do again the deed that was taken back last, and tell it."""
        if not self.undone:
            raise Nothing("no deed is taken back")
        self.done.append(self.undone.pop())
        return self.done[-1][0]

    def deeds(self):
        """The deeds that are done and not taken back."""
        return [deed for deed, house in self.done]

    def house(self):
        """A house that stands as the book's one does and goes its own way."""
        if self.done:
            return self.done[-1][1].twin()
        return self.start.twin()

    def text(self):
        """The text of the book."""
        rule = self.start.rule()
        rows = [
            row_of(["stays"] + rule.stays()),
            row_of(["rule", rule.gap, rule.opens, rule.shuts, rule.least, rule.most, rule.names]),
            row_of(["posts"] + self.start.posts()),
        ]
        rows.extend([row_of(deed) for deed in self.deeds()])
        return "\n".join(rows)


def number_in(word):
    """The number that a word writes as a book writes it, or None."""
    try:
        number = int(word)
    except ValueError:
        return None
    # Python reads other ways to write a number, too, that no book writes.
    if str(number) != word:
        return None
    return number


def things_in(rows, at):
    """The first word of a row and the numbers behind it."""
    if at >= len(rows):
        raise BadText(at)
    words = rows[at].split(" ")
    numbers = [number_in(word) for word in words[1:]]
    if None in numbers:
        raise BadText(at)
    return (words[0], numbers)


def numbers_in(rows, at, word):
    """The numbers of a row that must begin with this word."""
    first, numbers = things_in(rows, at)
    if first != word:
        raise BadText(at)
    return numbers


def rule_in(rows):
    """The rule of the first two rows."""
    stays = numbers_in(rows, 0, "stays")
    try:
        check_stays(stays)
    except BadRule:
        raise BadText(0) from None
    numbers = numbers_in(rows, 1, "rule")
    if len(numbers) != RULE_NUMBERS:
        raise BadText(1)
    gap, opens, shuts, least, most, names = numbers
    try:
        return Rule(stays, gap, opens, shuts, least, most, names)
    except BadRule:
        raise BadText(1) from None


def blank_book(rows):
    """The book of the first three rows, without a deed."""
    rule = rule_in(rows)
    posts = numbers_in(rows, 2, "posts")
    try:
        return Book(rule, posts)
    except BadPosts:
        raise BadText(2) from None


def read_book(text):
    """The book that has this text."""
    rows = text.split("\n")
    book = blank_book(rows)
    for at in range(FIRST_DEED_ROW, len(rows)):
        word, numbers = things_in(rows, at)
        deed = tuple([word] + numbers)
        try:
            book.do(deed)
        except AgeError:
            raise BadText(at) from None
    return book
