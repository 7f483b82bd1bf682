"""The bounds of a rule and the extremes: point 19."""

import itertools
import random
import unittest
from unittest import mock

from agegrade.ages import entry_age
from agegrade.errors import AgeError
from agegrade.ever import bounds, extreme
from agegrade.feasts import Feasts
from agegrade.house import House
from tests.helper import Case, all_calendars, any_deed, go_on, house, rule, told_by_house, told_by_rule

EDGES = (
    {}, {"gap": 1}, {"gap": 2}, {"gap": 5}, {"gap": 6}, {"gap": 7}, {"gap": 10}, {"gap": 60}, {"opens": 0},
    {"opens": 0, "shuts": 0}, {"opens": 2, "shuts": 2}, {"opens": 1, "shuts": 1}, {"opens": 0, "gap": 1},
    {"least": 8}, {"least": 1, "most": 1}, {"least": 1, "most": 40}, {"least": 1, "most": 40, "gap": 1},
    {"stays": [1], "opens": 0, "shuts": 0}, {"stays": [1], "opens": 0, "shuts": 0, "gap": 1},
    {"stays": [6] * 8, "opens": 0, "shuts": 7, "gap": 1}, {"stays": [6] * 8, "opens": 0, "shuts": 7, "gap": 60},
    {"stays": [6] * 8, "opens": 7, "shuts": 7, "gap": 1, "least": 40, "most": 40}, {"stays": [6] * 8, "gap": 48},
)


def small_rules():
    for stays, opens, shuts in (([1], 0, 0), ([2], 0, 0), ([1, 1], 0, 1), ([1, 1], 1, 1), ([1, 2], 0, 0),
                                ([1, 1, 1], 1, 1), ([1, 2], 1, 1), ([2, 1, 1], 1, 2)):
        for gap, (least, most) in itertools.product((1, 2, 3, 4), ((1, 1), (1, 2), (2, 3), (3, 3))):
            yield rule(stays=stays, opens=opens, shuts=shuts, gap=gap, least=least, most=most)


def bear_all(made, fathers):
    """Let a son be born to some man of each set that may have sons now."""
    law = made.rule()
    sons = []
    for stood in range(law.span()):
        if law.fathering(stood):
            set_number = made.latest() - stood
            if set_number not in fathers:
                fathers[set_number] = made.admit(set_number, made.year())
            sons.append(made.bear(fathers[set_number]))
    return sons


def all_entry_ages(law, feasts):
    """The entry ages of sons born at any time, whichever way so many feasts are held."""
    told = set()
    for years in all_calendars(law, 0, feasts):
        made, fathers = House(law, []), {}
        sons = bear_all(made, fathers)
        for year in years:
            while made.year() < year:
                made.wait(1)
                sons += bear_all(made, fathers)
            made.hold()
            sons += bear_all(made, fathers)
        while made.year() < years[-1] + law.most:
            made.wait(1)
            sons += bear_all(made, fathers)
        told |= {entry_age(made, son) for son in sons}
    return told - {None}


class BoundsTest(Case):
    def told(self, **changes):
        pair = bounds(rule(**changes))
        self.assertEqual([type(part) for part in pair], [int, int])
        self.assertIs(type(pair), tuple)
        return pair

    def test_usual(self):
        self.assertEqual(self.told(), (-16, 16))

    def test_the_gap_against_the_span(self):
        self.assertEqual(self.told(gap=1), (-40, -5))
        self.assertEqual(self.told(gap=2), (-32, 0))
        self.assertEqual(self.told(gap=3), (-24, 8))
        self.assertEqual(self.told(gap=5), (-8, 24))
        self.assertEqual(self.told(gap=6), (0, 32))
        self.assertEqual(self.told(gap=7), (5, 40))
        self.assertEqual(self.told(gap=60), (270, 464))

    def test_opens_at_0(self):
        self.assertEqual(self.told(opens=0), (-16, 32))
        self.assertEqual(self.told(opens=0, gap=1), (-40, 8))
        self.assertEqual(self.told(opens=0, shuts=0), (10, 32))
        self.assertEqual(self.told(opens=0, shuts=0, gap=1), (-8, 8))
        self.assertEqual(self.told(opens=0, shuts=1, gap=3), (0, 24))

    def test_shuts_ahead_of_the_last_grade(self):
        self.assertEqual(self.told(shuts=1), (5, 16))
        self.assertEqual(self.told(shuts=1, gap=3), (0, 8))
        self.assertEqual(self.told(shuts=1, gap=2), (-8, 0))
        self.assertEqual(self.told(opens=2), (-16, 8))
        self.assertEqual(self.told(opens=2, gap=1), (-40, -10))

    def test_least_equal_to_most(self):
        self.assertEqual(self.told(least=8), (-16, 16))
        self.assertEqual(self.told(least=5, most=5, gap=9), (15, 35))
        self.assertEqual(self.told(least=1, most=1), (-2, 2))

    def test_one_grade(self):
        self.assertEqual(self.told(stays=[1], opens=0, shuts=0, gap=1), (0, 8))
        self.assertEqual(self.told(stays=[1], opens=0, shuts=0, gap=2), (5, 16))
        self.assertEqual(self.told(stays=[6], opens=0, shuts=0, gap=1), (-40, 8))

    def test_the_farthest(self):
        self.assertEqual(self.told(stays=[6] * 8, opens=7, shuts=7, gap=1, least=40, most=40), (-1880, -1640))
        self.assertEqual(self.told(stays=[1], opens=0, shuts=0, gap=60, least=1, most=40), (59, 2400))

    def test_names_are_nothing_to_it(self):
        for names in (1, 4, 60):
            self.assertEqual(self.told(names=names), (-16, 16))

    def test_the_rule_stays_as_it_is(self):
        law = rule()
        ahead = told_by_rule(law)
        bounds(law)
        extreme(law, True)
        extreme(law, False)
        self.assertEqual(told_by_rule(law), ahead)


class TriedTest(Case):
    """Small rules, against all that is let in their houses."""

    def test_all_times_of_birth_in_all_calendars(self):
        for law in small_rules():
            ages = all_entry_ages(law, max(law.gap, law.span()))
            self.assertEqual(bounds(law), (min(ages), max(ages)), told_by_rule(law))

    def deeds_now(self, made):
        men = range(made.many())
        yield ("wait", 1)
        yield ("hold",)
        for near in range(-made.rule().span(), made.rule().gap + 1):
            yield ("admit", made.latest() + near, made.year() - 1)
        for man in men:
            yield ("bear", man)
            for other in men:
                yield ("adopt", man, other)

    def ends(self, made, adopted, deeds):
        """Every house that so many deeds lead to, with those who were adopted in it."""
        yield made, adopted
        if deeds == 0:
            return
        for name, *things in self.deeds_now(made):
            twin = made.twin()
            try:
                getattr(twin, name)(*things)
            except AgeError:
                continue
            taken = adopted | {things[0]} if name == "adopt" else adopted
            yield from self.ends(twin, taken, deeds - 1)

    def test_all_short_rows_of_deeds(self):
        for changes in ({"stays": [1, 1], "opens": 0, "shuts": 1}, {"stays": [2], "opens": 0, "shuts": 0}):
            law = rule(gap=1, least=1, most=2, **changes)
            ages = set()
            for made, adopted in self.ends(House(law, []), frozenset(), 6):
                for man in range(made.many()):
                    if made.father_of(man) is not None and man not in adopted:
                        ages.add(entry_age(made, man))
            ages -= {None}
            self.assertEqual(bounds(law), (min(ages), max(ages)))

    def test_long_rows_of_deeds(self):
        luck = random.Random(19)
        for changes in EDGES:
            made = house(**changes)
            first, second = bounds(made.rule())
            adopted = set()
            for _ in range(400):
                name, *things = any_deed(luck, made)
                if name == "wait":
                    things = [luck.randint(0, made.rule().most)]
                if name == "die":
                    continue
                try:
                    getattr(made, name)(*things)
                except AgeError:
                    continue
                if name == "adopt":
                    adopted.add(things[0])
            go_on(made, made.rule().gap)
            for man in range(made.many()):
                if made.father_of(man) is not None and man not in adopted and entry_age(made, man) is not None:
                    self.assertTrue(first <= entry_age(made, man) <= second, changes)


class ExtremeTest(Case):
    def check(self, law, second):
        told = extreme(law, second)
        self.assertIs(type(told), tuple)
        made, son = told
        self.assertIs(type(made), House)
        self.assertIs(type(son), int)
        self.assertEqual(made.posts(), [])
        self.assertEqual(told_by_rule(made.rule()), told_by_rule(law))
        self.number(entry_age(made, son), bounds(law)[1 if second else 0])
        self.check_feasts(made)
        for man in range(made.many()):
            self.check_man(made, man)
        self.assertIsNotNone(made.father_of(son))

    def check_feasts(self, made):
        """The same feasts can be held by waiting and holding."""
        feasts = Feasts(made.rule())
        for feast in range(1, made.latest() + 1):
            feasts.wait(made.held(feast) - feasts.year())
            feasts.hold()
        feasts.wait(made.year() - feasts.year())
        self.assertEqual((feasts.year(), feasts.latest()), (made.year(), made.latest()))

    def check_man(self, made, man):
        """He can have come so by being admitted or born."""
        father = made.father_of(man)
        self.assertLessEqual(made.born(man), made.year())
        if father is None:
            return
        self.assertEqual(made.set_of(man), made.set_of(father) + made.rule().gap)
        latest = [feast for feast in range(made.latest() + 1) if made.held(feast) <= made.born(man)][-1]
        # In the year of a feast he may be born ahead of it, too.
        times = [latest, latest - 1] if made.held(latest) == made.born(man) and latest else [latest]
        self.assertTrue(any(made.rule().fathering(feast - made.set_of(father)) for feast in times))

    def test_edges(self):
        for changes in EDGES:
            for second in (True, False):
                with self.subTest(changes=changes, second=second):
                    self.check(rule(**changes), second)

    def test_small_rules(self):
        for law in small_rules():
            for second in (True, False):
                self.check(law, second)

    def test_all_fathering_grades_and_gaps(self):
        for opens, shuts in itertools.combinations_with_replacement(range(3), 2):
            for gap in range(1, 12):
                for second in (True, False):
                    self.check(rule(opens=opens, shuts=shuts, gap=gap), second)

    def test_many_rules(self):
        luck = random.Random(5)
        for _ in range(150):
            stays = [luck.randint(1, 6) for _ in range(luck.randint(1, 8))]
            opens = luck.randrange(len(stays))
            least = luck.randint(1, 40)
            law = rule(
                stays=stays, opens=opens, shuts=luck.randrange(opens, len(stays)), gap=luck.randint(1, 60),
                least=least, most=luck.randint(least, 40),
            )
            for second in (True, False):
                self.check(law, second)

    def test_the_wanted_bound_alone(self):
        law = rule()
        self.assertEqual(entry_age(*extreme(law, True)), 16)
        self.assertEqual(entry_age(*extreme(law, False)), -16)

    def test_nobody_is_adopted(self):
        with mock.patch.object(House, "adopt", side_effect=AssertionError):
            for changes in EDGES:
                for second in (True, False):
                    extreme(rule(**changes), second)

    def test_each_house_goes_its_own_way(self):
        law = rule()
        for second in (True, False):
            made, son = extreme(law, second)
            other, same = extreme(law, second)
            ahead = told_by_house(other)
            self.assertEqual((told_by_house(made), son), (ahead, same))
            made.die(son)
            go_on(made)
            self.assertEqual(told_by_house(other), ahead)
            self.assertEqual(told_by_house(extreme(law, second)[0]), ahead)


if __name__ == "__main__":
    unittest.main()
