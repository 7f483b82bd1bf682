"""What the tests share: a usual rule, houses, all that is told, and exact refusals."""

import itertools
import random
import unittest

from agegrade.errors import AgeError
from agegrade.house import House
from agegrade.muster import fill
from agegrade.rules import Rule

USUAL = {"stays": [2, 1, 3], "gap": 4, "opens": 1, "shuts": 2, "least": 5, "most": 8, "names": 7}


def rule(**changes):
    return Rule(**{**USUAL, **changes})


def house(posts=(), **changes):
    return House(rule(**changes), list(posts))


def go_on(thing, many=1):
    """Hold so many feasts, each in its first let year; tell what the last one told."""
    told = None
    for _ in range(many):
        earliest, _latest = thing.window(thing.latest() + 1)
        thing.wait(earliest - thing.year())
        told = thing.hold()
    return told


def told_by_rule(a_rule):
    fields = (a_rule.gap, a_rule.opens, a_rule.shuts, a_rule.least, a_rule.most, a_rule.names)
    begins = [a_rule.begin(grade) for grade in range(a_rule.grades())]
    at = [(a_rule.grade_at(stood), a_rule.fathering(stood)) for stood in range(-2, a_rule.span() + 3)]
    return (fields, a_rule.stays(), a_rule.grades(), a_rule.span(), begins, at)


def told_by_clock(clock):
    """What Feasts and House tell alike."""
    latest = clock.latest()
    years = [clock.held(feast) for feast in range(latest + 1)]
    windows = [clock.window(feast) for feast in range(latest + 1, latest + 4)]
    return (clock.year(), latest, years, windows)


def told_by_feasts(feasts):
    return told_by_clock(feasts) + ([feasts.by_year(year) for year in range(feasts.year() + 1)],)


def told_of_man(a_house, man):
    return (
        a_house.set_of(man), a_house.born(man), a_house.father_of(man), a_house.alive(man),
        a_house.stood(man), a_house.stage(man), a_house.grade_of(man), a_house.name_of(man),
        a_house.sons_of(man), a_house.post_of(man),
    )


def told_by_house(a_house):
    men = [told_of_man(a_house, man) for man in range(a_house.many())]
    holders = [a_house.holder(post) for post in range(len(a_house.posts()))]
    return (told_by_rule(a_house.rule()), told_by_clock(a_house), a_house.posts(), holders, a_house.many(), men)


def any_deed(luck, a_house):
    """A deed by its name and its things, let or not."""
    men, posts = a_house.many(), len(a_house.posts())
    man, other = luck.randint(-1, men), luck.randint(-1, men)
    post = luck.randint(-1, posts)
    near = a_house.latest() + luck.randint(-8, 6)
    return luck.choice((
        ("wait", luck.randint(-1, 6)), ("hold",), ("admit", near, a_house.year() - luck.randint(-1, 201)),
        ("admit", near, a_house.year()), ("bear", man), ("bear", other), ("adopt", man, other), ("die", man),
        ("appoint", post, man), ("appoint", post, other), ("resign", post),
    ))


def any_book_deed(luck, a_house):
    """A deed of a book, let or not."""
    return ("fill",) if luck.random() < 0.1 else any_deed(luck, a_house)


def redone(a_house, deed):
    """Do a deed of a book in a house itself; tell what it gives."""
    name, *things = deed
    return fill(a_house) if name == "fill" else getattr(a_house, name)(*things)


def grown(seed, posts=(), deeds=250, **changes):
    """A house behind a long run of deeds."""
    luck = random.Random(seed)
    made = house(posts, **changes)
    for _ in range(deeds):
        name, *things = any_deed(luck, made)
        try:
            getattr(made, name)(*things)
        except AgeError:
            pass
    return made


def all_calendars(law, since, many):
    """Every calendar of so many feasts that is let by, found by trying."""
    told = []
    for steps in itertools.product(range(law.least, law.most + 1), repeat=many):
        years = list(itertools.accumulate(steps))
        if not years or years[0] >= since:
            told.append(years)
    return told


def any_rule(luck, most=4):
    stays = [luck.randint(1, 3) for _ in range(luck.randint(1, 3))]
    opens = luck.randrange(len(stays))
    least = luck.randint(1, most)
    return rule(
        stays=stays, opens=opens, shuts=luck.randrange(opens, len(stays)), gap=luck.randint(1, 7),
        least=least, most=luck.randint(least, most),
    )


def any_terms(luck, law):
    """A beat, young and old."""
    young = luck.randint(1, 12)
    return (luck.randint(law.least, law.most), young, young + luck.choice((0, 0, 1, 3, 10)))


def sons_ages(law, beat, young, old, entry_age):
    """The entry ages of sons of a man of this entry age, found by trying each age and feast at an even beat."""
    told = set()
    for age in range(young, old + 1):
        # Counted from the year in which the father's set opens.
        year = age - entry_age
        for stood in range(law.span()):
            first, behind = stood * beat, (stood + 1) * beat
            if first <= year < behind and law.fathering(stood):
                told.add(law.gap * beat - year)
    return told


class Case(unittest.TestCase):
    def refused(self, error, deed, *things):
        """The deed is refused with just this error, not with one above or beside it."""
        with self.assertRaises(error) as caught:
            deed(*things)
        self.assertIs(type(caught.exception), error)

    def number(self, told, wanted):
        """The very whole number is told, and not True or False in its stead."""
        self.assertIs(type(told), int)
        self.assertEqual(told, wanted)
