"""Calendars, wishes and clashes: points 16 and 17."""

import itertools
import random
import unittest

from agegrade.errors import BadWish, BadYears, Overdue, TooSoon
from agegrade.feasts import Feasts
from agegrade.plans import planned
from tests.helper import Case, all_calendars, rule, told_by_rule


def meets(years, wishes):
    return all(first <= years[feast - 1] <= last for feast, first, last in wishes)


def can_be_met(law, since, wishes):
    many = max([wish[0] for wish in wishes], default=0)
    return any(meets(years, wishes) for years in all_calendars(law, since, many))


class PlanCase(Case):
    def check_calendar(self, law, since, wishes, told):
        word, years = told
        self.assertEqual(word, "calendar")
        self.assertIs(type(told), tuple)
        self.assertIs(type(years), list)
        self.assertTrue(all(type(year) is int for year in years))
        self.assertEqual(len(years), max([wish[0] for wish in wishes], default=0))
        for ahead, year in zip([0] + years, years):
            self.assertTrue(law.least <= year - ahead <= law.most, years)
        if years:
            self.assertGreaterEqual(years[0], since)
        self.assertTrue(meets(years, wishes), (wishes, years))

    def check_clash(self, law, since, wishes, told):
        word, place, other = told
        self.assertEqual(word, "clash")
        self.assertIs(type(told), tuple)
        places = [one for one in (place, other) if one is not None]
        self.assertTrue(places)
        self.assertEqual(len(set(places)), len(places))
        for one in places:
            self.assertIs(type(one), int)
            self.assertTrue(0 <= one < len(wishes))
        self.assertFalse(can_be_met(law, since, [wishes[one] for one in places]), (wishes, told))

    def calendar(self, law, since, wishes):
        told = planned(law, since, wishes)
        self.check_calendar(law, since, wishes, told)
        return told[1]

    def clash(self, law, since, wishes):
        """The places of a clash, without None."""
        told = planned(law, since, wishes)
        self.assertEqual((told[0], len(told)), ("clash", 3))
        places = [one for one in told[1:] if one is not None]
        self.assertTrue(places)
        return sorted(places)


class CalendarTest(PlanCase):
    def test_no_wishes(self):
        for since in (0, 5, 8):
            self.assertEqual(planned(rule(), since, []), ("calendar", []))

    def test_the_next_feast(self):
        law = rule()
        for first, last in ((5, 5), (8, 8), (6, 7), (0, 5), (8, 99), (-50, 50), (0, 8)):
            self.calendar(law, 0, [(1, first, last)])
        self.assertEqual(planned(law, 0, [(1, 6, 6)]), ("calendar", [6]))

    def test_a_later_feast(self):
        law = rule()
        for first, last in ((15, 15), (24, 24), (19, 20), (0, 15), (24, 99), (-9, 99)):
            self.calendar(law, 0, [(3, first, last)])
        self.assertEqual(planned(law, 0, [(3, 15, 15)]), ("calendar", [5, 10, 15]))
        self.assertEqual(planned(law, 0, [(3, 24, 24)]), ("calendar", [8, 16, 24]))

    def test_since(self):
        law = rule()
        for since in range(9):
            years = self.calendar(law, since, [(2, 0, 99)])
            self.assertGreaterEqual(years[0], max(since, 5))
        self.assertEqual(planned(law, 7, [(2, 0, 12)]), ("calendar", [7, 12]))
        self.assertEqual(planned(law, 8, [(3, 0, 18)]), ("calendar", [8, 13, 18]))
        self.assertEqual(planned(law, 8, [(3, 24, 24)]), ("calendar", [8, 16, 24]))
        self.assertEqual(planned(law, 5, [(1, 5, 5)]), ("calendar", [5]))

    def test_many_wishes_that_are_met(self):
        law = rule()
        self.calendar(law, 6, [(4, 20, 40), (1, 7, 7), (2, 12, 13), (3, 0, 20), (7, 44, 44), (7, 40, 50)])
        self.calendar(law, 0, [(1, 5, 6), (3, 20, 22), (2, 13, 14), (3, 21, 30)])
        self.calendar(law, 0, [(2, 10, 16)] * 100)

    def test_a_later_wish_binds_the_feasts_ahead(self):
        law = rule()
        self.assertEqual(planned(law, 0, [(1, 5, 8), (2, 16, 16)]), ("calendar", [8, 16]))
        self.assertEqual(planned(law, 0, [(2, 10, 10), (1, 5, 8)]), ("calendar", [5, 10]))
        self.calendar(law, 0, [(1, 5, 5), (4, 29, 29)])

    def test_the_same_years_between_all_feasts(self):
        law = rule(least=4, most=4)
        self.assertEqual(planned(law, 3, [(3, 0, 99)]), ("calendar", [4, 8, 12]))
        self.assertEqual(self.clash(law, 3, [(3, 0, 99), (2, 9, 9)]), [1])

    def test_feast_200(self):
        law = rule()
        for year in (1000, 1234, 1600):
            self.assertEqual(self.calendar(law, 0, [(200, year, year)])[-1], year)
        self.assertEqual(self.clash(law, 0, [(200, 0, 999)]), [0])
        self.assertEqual(self.clash(law, 0, [(200, 1601, 9999)]), [0])
        law = rule(least=1, most=40)
        self.assertEqual(self.calendar(law, 40, [(200, 8000, 8000)])[0], 40)

    def test_as_feasts_are_held(self):
        law = rule()
        years = self.calendar(law, 7, [(2, 13, 13), (4, 28, 30)])
        feasts = Feasts(law)
        feasts.wait(7)
        for year in years:
            feasts.wait(year - feasts.year())
            feasts.hold()
        self.assertEqual([feasts.held(feast) for feast in range(1, 5)], years)


class ClashTest(PlanCase):
    def test_one_wish_that_can_not_be_met(self):
        law = rule()
        for since, wish in ((0, (1, 0, 4)), (0, (1, 9, 99)), (7, (1, 5, 6)), (0, (3, 0, 14)), (0, (3, 25, 25)),
                            (7, (3, 15, 16)), (0, (2, -5, -1)), (8, (1, -9, 7))):
            told = planned(law, since, [wish])
            self.assertEqual((told[0], sorted(told[1:], key=str)), ("clash", [0, None]), wish)
            self.check_clash(law, since, [wish], told)

    def test_one_among_those_that_can_be_met(self):
        law = rule()
        wishes = [(1, 5, 8), (2, 10, 16), (3, 25, 30), (4, 0, 99)]
        self.assertIn(2, self.clash(law, 0, wishes))
        self.check_clash(law, 0, wishes, planned(law, 0, wishes))

    def test_two_wishes_that_clash(self):
        law = rule()
        for wishes in (
            [(1, 5, 6), (1, 7, 8)], [(1, 7, 8), (1, 5, 6)], [(1, 5, 5), (2, 14, 16)], [(2, 14, 16), (1, 5, 5)],
            [(1, 8, 8), (2, 0, 12)], [(2, 10, 11), (4, 28, 32)], [(2, 15, 16), (4, 20, 24)], [(4, 20, 24), (2, 15, 16)],
        ):
            with self.subTest(wishes=wishes):
                for wish in wishes:
                    self.calendar(law, 0, [wish])
                self.assertEqual(self.clash(law, 0, wishes), [0, 1])
                self.check_clash(law, 0, wishes, planned(law, 0, wishes))

    def test_two_among_those_that_can_be_met(self):
        law = rule()
        wishes = [(3, 0, 99), (1, 8, 8), (5, 0, 99), (2, 10, 12), (4, 0, 99)]
        self.assertEqual(self.clash(law, 0, wishes), [1, 3])
        wishes = [(1, 5, 8), (5, 30, 40), (3, 0, 99), (2, 0, 13), (3, 15, 15), (4, 20, 21)]
        self.assertEqual(self.clash(law, 0, wishes), [1, 5])

    def test_they_clash_only_since_years_have_gone(self):
        law = rule()
        wishes = [(1, 5, 6), (2, 0, 11)]
        self.calendar(law, 6, wishes)
        self.assertEqual(self.clash(law, 7, wishes), [0])
        self.calendar(law, 6, wishes[1:])
        self.assertEqual(self.clash(law, 7, wishes[1:]), [0])


class TriedTest(PlanCase):
    """Small rules, against all their calendars."""

    def test_against_all_calendars(self):
        luck = random.Random(17)
        words = {"calendar": 0, "clash": 0}
        pairs = 0
        for _ in range(1500):
            least = luck.randint(1, 3)
            law = rule(least=least, most=least + luck.randint(0, 2))
            since = luck.randint(0, law.most)
            wishes = []
            for _ in range(luck.randint(0, 5)):
                feast = luck.randint(1, 4)
                first = luck.randint(feast * law.least - 1, feast * law.most + 1)
                wishes.append((feast, first, first + luck.choice((0, 0, 1, 2, 5))))
            handed = list(wishes)
            told = planned(law, since, handed)
            self.assertEqual(handed, wishes)
            words[told[0]] += 1
            if can_be_met(law, since, wishes):
                self.check_calendar(law, since, wishes, told)
            else:
                self.check_clash(law, since, wishes, told)
                pairs += None not in told
        self.assertGreater(min(words.values()), 300)
        self.assertGreater(pairs, 100)

    def test_two_wishes_of_one_rule_all_ways(self):
        law = rule(least=2, most=3)
        spans = [(first, first + more) for first in range(1, 10) for more in (0, 1)]
        for since in range(4):
            for (feast, one), (other, two) in itertools.product(itertools.product((1, 2, 3), spans), repeat=2):
                wishes = [(feast,) + one, (other,) + two]
                told = planned(law, since, wishes)
                if can_be_met(law, since, wishes):
                    self.check_calendar(law, since, wishes, told)
                else:
                    self.check_clash(law, since, wishes, told)

    def test_a_hundred_wishes_for_far_feasts(self):
        luck = random.Random(5)
        for _ in range(20):
            law = rule(least=3, most=9)
            years = list(itertools.accumulate(luck.randint(3, 9) for _ in range(200)))
            feasts = [200] + [luck.randint(1, 200) for _ in range(99)]
            wishes = [(one, years[one - 1] - luck.randint(0, 3), years[one - 1] + luck.randint(0, 3)) for one in feasts]
            self.calendar(law, min(years[0], 3), wishes)
            spoilt = wishes[:40] + [(150, years[149] + 4, years[149] + 5), (149, 0, years[149] - 6)] + wishes[42:]
            self.assertEqual(planned(law, 3, spoilt)[0], "clash")


class RefusedTest(PlanCase):
    def test_bad_years(self):
        law = rule()
        for since in (-1, 9, -9, 10 ** 20, -10 ** 20):
            self.refused(BadYears, planned, law, since, [])
            self.refused(BadYears, planned, law, since, [(1, 5, 8)])
        self.refused(BadYears, planned, rule(least=3, most=3), 4, [])

    def test_bad_feast(self):
        law = rule()
        for feast in (0, 201, -1, 10 ** 20, -10 ** 20):
            self.refused(BadWish, planned, law, 0, [(feast, 0, 9999)])
            self.refused(BadWish, planned, law, 0, [(1, 5, 8), (feast, 0, 9999), (2, 10, 12)])

    def test_bad_span(self):
        law = rule()
        for first, last in ((6, 5), (0, -1), (-1, -2), (99, 1)):
            self.refused(BadWish, planned, law, 0, [(1, first, last)])
            self.refused(BadWish, planned, law, 0, [(2, 10, 12), (1, first, last)])
        self.assertEqual(planned(law, 0, [(1, 6, 6)]), ("calendar", [6]))

    def test_bad_years_go_ahead_of_a_bad_wish(self):
        for wish in ((0, 1, 2), (201, 1, 2), (1, 6, 5)):
            for since in (-1, 9):
                self.refused(BadYears, planned, rule(), since, [wish])

    def test_a_bad_wish_goes_ahead_of_a_clash(self):
        self.refused(BadWish, planned, rule(), 0, [(1, 99, 99), (1, 0, 0), (1, 6, 5)])
        self.refused(BadWish, planned, rule(), 0, [(1, 99, 99), (201, 0, 9999)])

    def test_the_calendars_of_feasts_have_the_same_edges(self):
        law = rule()
        self.assertEqual(self.clash(law, 0, [(1, 4, 4)]), [0])
        self.assertEqual(self.clash(law, 0, [(1, 9, 9)]), [0])
        feasts = Feasts(law)
        feasts.wait(4)
        self.refused(TooSoon, feasts.hold)
        self.refused(Overdue, feasts.wait, 5)


class KeptTest(PlanCase):
    def test_wishes_stay_as_they_are(self):
        law = rule()
        ahead = told_by_rule(law)
        for wishes in ([(2, 10, 12), (1, 5, 8)], [(2, 10, 10), (1, 8, 8)], []):
            handed = list(wishes)
            planned(law, 3, handed)
            self.assertEqual(handed, wishes)
        handed = [(1, 5, 8), (0, 1, 2)]
        self.refused(BadWish, planned, law, 0, handed)
        self.assertEqual(handed, [(1, 5, 8), (0, 1, 2)])
        self.assertEqual(told_by_rule(law), ahead)

    def test_told_calendars_are_fresh(self):
        law = rule()
        for wishes in ([], [(3, 24, 24)]):
            told = planned(law, 0, wishes)[1]
            wanted = list(told)
            told.append(5)
            told[0] = 99
            self.assertEqual(planned(law, 0, wishes), ("calendar", wanted))


if __name__ == "__main__":
    unittest.main()
