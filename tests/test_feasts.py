"""Feasts: points 4 and 5, and what point 1 says of them."""

import unittest

from agegrade.errors import BadYears, NoFeast, NoYear, Overdue, TooSoon
from agegrade.feasts import Feasts
from tests.helper import Case, go_on, rule, told_by_feasts, told_by_rule


def feasts(**changes):
    return Feasts(rule(**changes))


def reachable(start, further):
    """The years in which the feast that is so many ahead can be held, by trying all."""
    years = set()
    ahead = [start.twin()]
    while ahead:
        one = ahead.pop()
        later = one.twin()
        try:
            one.hold()
        except TooSoon:
            pass
        else:
            if one.latest() == start.latest() + further:
                years.add(one.year())
            else:
                ahead.append(one)
        try:
            later.wait(1)
        except Overdue:
            continue
        ahead.append(later)
    return years


class WaitTest(Case):
    def test_all_begins_behind_feast_0_in_year_0(self):
        made = feasts()
        self.number(made.year(), 0)
        self.number(made.latest(), 0)
        self.number(made.held(0), 0)

    def test_waiting(self):
        made = feasts()
        self.assertIsNone(made.wait(3))
        self.assertEqual(made.year(), 3)
        self.assertIsNone(made.wait(2))
        self.assertEqual(made.year(), 5)
        self.assertEqual(made.latest(), 0)

    def test_waiting_0_years_is_let(self):
        made = feasts()
        made.wait(0)
        self.assertEqual(made.year(), 0)
        made.wait(8)
        made.wait(0)
        self.assertEqual(made.year(), 8)

    def test_waiting_below_0(self):
        made = feasts()
        made.wait(4)
        for years in (-1, -4, -10 ** 20):
            self.refused(BadYears, made.wait, years)
        self.assertEqual(made.year(), 4)

    def test_waiting_to_the_last_let_year_and_beyond(self):
        made = feasts()
        self.refused(Overdue, made.wait, 9)
        made.wait(8)
        self.assertEqual(made.year(), 8)
        self.refused(Overdue, made.wait, 1)
        self.refused(Overdue, made.wait, 10 ** 20)
        made.hold()
        self.refused(Overdue, made.wait, 9)
        made.wait(8)
        self.assertEqual(made.year(), 16)

    def test_the_last_let_year_is_counted_from_the_latest_feast(self):
        made = feasts()
        made.wait(6)
        made.hold()
        made.wait(5)
        self.refused(Overdue, made.wait, 4)
        made.wait(3)
        self.assertEqual(made.year(), 14)


class HoldTest(Case):
    def test_too_soon_and_the_first_let_year(self):
        made = feasts()
        self.refused(TooSoon, made.hold)
        made.wait(4)
        self.refused(TooSoon, made.hold)
        made.wait(1)
        self.assertIsNone(made.hold())
        self.assertEqual((made.latest(), made.year(), made.held(1)), (1, 5, 5))

    def test_each_let_year(self):
        for years in range(5, 9):
            made = feasts()
            made.wait(years)
            made.hold()
            self.assertEqual(made.held(1), years)

    def test_years_count_from_the_latest_feast(self):
        made = feasts()
        made.wait(7)
        made.hold()
        self.refused(TooSoon, made.hold)
        made.wait(4)
        self.refused(TooSoon, made.hold)
        made.wait(1)
        made.hold()
        self.assertEqual([made.held(feast) for feast in range(3)], [0, 7, 12])
        self.number(made.latest(), 2)

    def test_feasts_every_year(self):
        made = feasts(least=1, most=1)
        for feast in range(1, 30):
            self.refused(TooSoon, made.hold)
            self.refused(Overdue, made.wait, 2)
            made.wait(1)
            made.hold()
            self.assertEqual(made.held(feast), feast)


class PastTest(Case):
    def setUp(self):
        self.feasts = feasts()
        for years in (5, 8, 6):
            self.feasts.wait(years)
            self.feasts.hold()
        self.feasts.wait(2)

    def test_held(self):
        self.assertEqual([self.feasts.held(feast) for feast in range(4)], [0, 5, 13, 19])

    def test_no_feast_just_beyond(self):
        for feast in (-1, 4, -4, 10 ** 20, -10 ** 20):
            self.refused(NoFeast, self.feasts.held, feast)

    def test_by_year(self):
        told = [self.feasts.by_year(year) for year in range(22)]
        self.assertEqual(told, [0] * 5 + [1] * 8 + [2] * 6 + [3] * 3)
        self.number(self.feasts.by_year(0), 0)
        self.number(self.feasts.by_year(5), 1)

    def test_no_year_just_beyond(self):
        for year in (-1, 22, 10 ** 20, -10 ** 20):
            self.refused(NoYear, self.feasts.by_year, year)
        self.feasts.wait(1)
        self.assertEqual(self.feasts.by_year(22), 3)

    def test_by_year_in_the_year_of_a_feast_ahead_of_it(self):
        made = feasts()
        made.wait(5)
        self.assertEqual(made.by_year(5), 0)
        made.hold()
        self.assertEqual(made.by_year(5), 1)
        self.assertEqual(made.by_year(4), 0)


class WindowTest(Case):
    def test_of_the_next_feast(self):
        made = feasts()
        told = made.window(1)
        self.assertIs(type(told), tuple)
        self.assertEqual(told, (5, 8))
        self.number(told[0], 5)
        self.number(told[1], 8)

    def test_while_the_year_goes_on(self):
        made = feasts()
        told = [made.window(1)]
        for _ in range(8):
            made.wait(1)
            told.append(made.window(1))
        self.assertEqual(told, [(5, 8)] * 6 + [(6, 8), (7, 8), (8, 8)])

    def test_of_further_feasts(self):
        made = feasts()
        self.assertEqual([made.window(feast) for feast in (2, 3, 10)], [(10, 16), (15, 24), (50, 80)])
        made.wait(7)
        self.assertEqual([made.window(feast) for feast in (1, 2, 3)], [(7, 8), (12, 16), (17, 24)])
        made.hold()
        self.assertEqual([made.window(feast) for feast in (2, 3, 4)], [(12, 15), (17, 23), (22, 31)])

    def test_far_ahead(self):
        many = 10 ** 18
        self.assertEqual(feasts().window(many), (5 * many, 8 * many))

    def test_no_feast_from_the_latest_one_down(self):
        made = feasts()
        for feast in (0, -1, -10 ** 20):
            self.refused(NoFeast, made.window, feast)
        go_on(made, 3)
        for feast in (3, 2, 0, -1):
            self.refused(NoFeast, made.window, feast)
        self.assertEqual(made.window(4), (20, 23))

    def test_is_what_can_be_reached(self):
        for least, most in ((1, 1), (1, 3), (2, 3), (3, 3)):
            for waited in range(most + 1):
                made = feasts(least=least, most=most)
                made.wait(most)
                made.hold()
                made.wait(waited)
                for further in (1, 2, 3):
                    years = reachable(made, further)
                    self.assertEqual(made.window(1 + further), (min(years), max(years)))


class KeptTest(Case):
    def test_what_is_refused_changes_nothing(self):
        made = feasts()
        go_on(made, 2)
        made.wait(3)
        ahead = told_by_feasts(made)
        for error, deed, things in (
            (BadYears, made.wait, (-1,)), (Overdue, made.wait, (6,)), (TooSoon, made.hold, ()),
            (NoFeast, made.held, (3,)), (NoFeast, made.window, (2,)), (NoYear, made.by_year, (14,)),
        ):
            self.refused(error, deed, *things)
            self.assertEqual(told_by_feasts(made), ahead)

    def test_a_question_changes_nothing(self):
        made = feasts()
        go_on(made, 2)
        self.assertEqual(told_by_feasts(made), told_by_feasts(made))

    def test_the_rule_is_not_changed(self):
        law = rule()
        ahead = told_by_rule(law)
        go_on(Feasts(law), 5)
        self.assertEqual(told_by_rule(law), ahead)

    def test_feasts_of_one_rule_go_their_own_ways(self):
        law = rule()
        one, other = Feasts(law), Feasts(law)
        ahead = told_by_feasts(other)
        go_on(one, 3)
        self.assertEqual(told_by_feasts(other), ahead)

    def test_a_twin_stands_alike(self):
        made = feasts()
        go_on(made, 2)
        made.wait(6)
        twin = made.twin()
        self.assertIsInstance(twin, Feasts)
        self.assertIsNot(twin, made)
        self.assertEqual(told_by_feasts(twin), told_by_feasts(made))

    def test_of_twins_each_goes_its_own_way(self):
        made = feasts()
        go_on(made, 2)
        made.wait(5)
        twin = made.twin()
        ahead = told_by_feasts(made)
        twin.hold()
        twin.wait(2)
        self.assertEqual(told_by_feasts(made), ahead)
        behind = told_by_feasts(twin)
        made.wait(3)
        made.hold()
        self.assertEqual(told_by_feasts(twin), behind)
        self.assertEqual((made.held(3), twin.held(3)), (18, 15))

    def test_a_twin_is_held_to_the_same_years(self):
        made = feasts()
        made.wait(4)
        twin = made.twin()
        self.refused(TooSoon, twin.hold)
        self.refused(Overdue, twin.wait, 5)
        twin.wait(4)
        twin.hold()
        self.assertEqual(twin.window(2), (13, 16))


if __name__ == "__main__":
    unittest.main()
