"""The outlook for the living who wait: point 18."""

import random
import unittest

from agegrade.ages import entry_age, outlook
from agegrade.errors import BadAges
from tests.helper import Case, all_calendars, go_on, grown, house, told_by_house


def waiting(a_house):
    return [man for man in range(a_house.many()) if a_house.alive(man) and a_house.stood(man) < 0]


def play(a_house, years):
    """Hold feasts in these years, counted from the latest feast's, by waiting and holding in a twin."""
    twin = a_house.twin()
    base = twin.held(twin.latest())
    for year in years:
        twin.wait(base + year - twin.year())
        twin.hold()
    return twin


def can_be_met(a_house, men, young, old):
    """Whether some calendar that is let by brings all these men in at such ages, found by trying."""
    law, latest = a_house.rule(), a_house.latest()
    base = a_house.held(latest)
    many = max([a_house.set_of(man) - latest for man in men], default=0)
    for years in all_calendars(law, a_house.year() - base, many):
        ages = [base + years[a_house.set_of(man) - latest - 1] - a_house.born(man) for man in men]
        if all(young <= age <= old for age in ages):
            return True
    return False


class OutlookCase(Case):
    def check_calendar(self, made, young, old, told):
        """It is let by, as long as is asked, and played it brings each one in at such an age."""
        word, years = told
        self.assertEqual(word, "calendar")
        self.assertEqual((type(told), type(years)), (tuple, list))
        men = waiting(made)
        self.assertEqual(len(years), max([-made.stood(man) for man in men], default=0))
        law = made.rule()
        for ahead, year in zip([0] + years, years):
            self.assertIs(type(year), int)
            self.assertTrue(law.least <= year - ahead <= law.most, years)
        if years:
            self.assertGreaterEqual(years[0], made.year() - made.held(made.latest()))
        played = play(made, years)
        for man in men:
            self.assertNotEqual(played.stage(man), "waiting")
            self.assertTrue(young <= entry_age(played, man) <= old, (man, years))

    def clash(self, made, young, old):
        """The men of a clash, without None."""
        told = outlook(made, young, old)
        self.assertEqual((type(told), told[0], len(told)), (tuple, "clash", 3))
        men = [man for man in told[1:] if man is not None]
        self.assertIn(len(men), (1, 2))
        self.assertEqual(len(set(men)), len(men))
        for man in men:
            self.assertIs(type(man), int)
            self.assertIn(man, waiting(made))
        return sorted(men)

    def calendar(self, made, young, old):
        told = outlook(made, young, old)
        self.check_calendar(made, young, old, told)
        return told[1]

    def check(self, made, young, old):
        """The outlook of a small house is held against all calendars; its word is told."""
        ahead = told_by_house(made)
        told = outlook(made, young, old)
        self.assertEqual(told_by_house(made), ahead)
        if can_be_met(made, waiting(made), young, old):
            self.check_calendar(made, young, old, told)
            return "calendar"
        men = self.clash(made, young, old)
        self.assertFalse(can_be_met(made, men, young, old), (men, told))
        return "one" if len(men) == 1 else "two"


class OutlookTest(OutlookCase):
    def test_nobody_waits(self):
        made = house()
        self.assertEqual(outlook(made, 5, 5), ("calendar", []))
        made.admit(0, 0)
        made.admit(-5, 0)
        self.assertEqual(outlook(made, 5, 5), ("calendar", []))
        go_on(made, 2)
        made.wait(8)
        self.assertEqual(outlook(made, 5, 5), ("calendar", []))

    def test_one_who_waits_for_the_next_feast(self):
        made = house()
        made.admit(1, -10)
        self.assertEqual(self.calendar(made, 15, 15), [5])
        self.assertEqual(self.calendar(made, 18, 18), [8])
        self.assertEqual(self.calendar(made, 17, 17), [7])
        for young, old in ((15, 18), (0, 15), (18, 99), (-9, 99)):
            self.calendar(made, young, old)
        for young, old in ((0, 14), (19, 99), (-9, 0)):
            told = outlook(made, young, old)
            self.assertEqual((told[0], sorted(told[1:], key=str)), ("clash", [0, None]))

    def test_one_who_waits_longer(self):
        made = house()
        made.admit(4, 0)
        self.assertEqual(self.calendar(made, 20, 20), [5, 10, 15, 20])
        self.assertEqual(self.calendar(made, 32, 32), [8, 16, 24, 32])
        for age in range(20, 33):
            self.assertEqual(self.calendar(made, age, age)[-1], age)
        self.assertEqual(self.clash(made, 0, 19), [0])
        self.assertEqual(self.clash(made, 33, 99), [0])

    def test_as_long_as_the_longest_waits(self):
        made = house()
        for set_number in (2, 4, 1, 4):
            made.admit(set_number, 0)
        self.assertEqual(len(self.calendar(made, 5, 32)), 4)
        made.die(1)
        self.assertEqual(len(self.calendar(made, 5, 32)), 4)
        made.die(3)
        self.assertEqual(len(self.calendar(made, 5, 32)), 2)
        go_on(made)
        self.assertEqual(len(self.calendar(made, 5, 32)), 1)
        go_on(made)
        self.assertEqual(self.calendar(made, 5, 32), [])

    def test_counted_from_the_latest_feast(self):
        made = house()
        made.wait(7)
        made.hold()
        made.admit(3, 5)
        self.assertEqual(self.calendar(made, 12, 12), [5, 10])
        made.wait(6)
        self.assertEqual(self.calendar(made, 13, 13), [6, 11])
        self.assertEqual(self.calendar(made, 18, 18), [8, 16])
        self.assertEqual(self.clash(made, 11, 12), [0])
        made.wait(2)
        self.assertEqual(self.calendar(made, 15, 15), [8, 13])
        self.assertEqual(self.clash(made, 11, 14), [0])

    def test_years_gone_since_the_latest_feast(self):
        for since in range(9):
            made = house()
            made.admit(1, 0)
            made.wait(since)
            self.assertGreaterEqual(self.calendar(made, 0, 99)[0], max(since, 5))
            self.assertEqual(self.calendar(made, 8, 8), [8])
            if since > 5:
                self.assertEqual(self.clash(made, 0, since - 1), [0])

    def test_the_dead_are_left_out(self):
        made = house()
        made.admit(1, -50)
        made.admit(1, 0)
        self.assertEqual(self.clash(made, 5, 8), [0])
        made.die(0)
        self.calendar(made, 5, 8)
        made.die(1)
        self.assertEqual(outlook(made, 5, 8), ("calendar", []))

    def test_the_standing_and_the_past_are_left_out(self):
        made = house()
        made.admit(0, -150)
        made.admit(-5, -150)
        made.admit(1, 0)
        self.assertEqual(len(self.calendar(made, 5, 8)), 1)
        go_on(made)
        made.admit(2, 5)
        self.assertEqual(made.stage(1), "past")
        self.assertEqual(len(self.calendar(made, 5, 8)), 1)

    def test_one_who_can_not_be_met_among_others(self):
        made = house()
        made.admit(0, 0)
        for set_number, born in ((1, -10), (2, -5), (3, -40), (4, 0)):
            made.admit(set_number, born)
        self.assertIn(3, self.clash(made, 10, 32))
        self.check(made, 10, 32)
        made.die(3)
        self.calendar(made, 10, 32)

    def test_two_who_clash_though_each_can_be_met(self):
        for men in (
            ((1, -10), (1, -9)), ((1, -10), (2, -1)), ((2, -1), (1, -10)), ((4, 5), (2, -4)), ((3, 5), (4, 5)),
        ):
            made = house()
            made.admit(0, -3)
            made.wait(5)
            for set_number, born in men:
                made.admit(set_number, born)
            with self.subTest(men=men):
                self.assertEqual(self.clash(made, 16, 16), [1, 2])
                self.assertEqual(self.check(made, 16, 16), "two")
                for dead in (1, 2):
                    alone = made.twin()
                    alone.die(dead)
                    self.calendar(alone, 16, 16)

    def test_two_of_one_set_too_far_apart(self):
        made = house()
        made.admit(0, 0)
        made.admit(2, -10)
        made.admit(2, -10)
        made.admit(2, -4)
        self.calendar(made, 14, 20)
        self.calendar(made, 15, 21)
        self.assertIn(self.clash(made, 15, 20), ([1, 3], [2, 3]))

    def test_an_age_below_0(self):
        made = house(gap=5)
        made.admit(0, -20)
        made.admit(1, 0)
        self.assertEqual(self.clash(made, -9, -1), [1])
        self.calendar(made, -9, 5)

    def test_a_son_and_an_adopted_one(self):
        made = house()
        father = made.admit(-2, -30)
        other = made.admit(-4, -40)
        son = made.bear(father)
        boy = made.bear(father)
        self.assertEqual(len(self.calendar(made, 10, 16)), 2)
        go_on(made)
        made.adopt(boy, other)
        self.assertEqual([made.stage(man) for man in (son, boy)], ["waiting", "standing"])
        self.assertEqual(len(self.calendar(made, 10, 16)), 1)

    def test_the_farthest_sets(self):
        made = house(gap=60)
        made.admit(60, 0)
        self.assertEqual(len(self.calendar(made, 300, 300)), 60)
        self.assertEqual(self.calendar(made, 480, 480)[0], 8)
        self.assertEqual(self.clash(made, 481, 500), [0])
        self.assertEqual(self.clash(made, 0, 299), [0])

    def test_bad_ages(self):
        busy = house()
        busy.admit(1, 0)
        for made in (busy, house()):
            for young, old in ((16, 15), (1, 0), (0, -1), (10 ** 20, 0)):
                self.refused(BadAges, outlook, made, young, old)


class ManyMenTest(OutlookCase):
    def test_a_calendar_for_500_men(self):
        made = house(gap=40, least=3, most=7)
        made.wait(3)
        for man in range(500):
            made.admit(man % 40 + 1, -man % 4)
        years = self.calendar(made, 0, 300)
        self.assertEqual(len(years), 40)

    def test_all_entries_in_just_one_way(self):
        luck = random.Random(18)
        made = house(gap=40, least=3, most=7)
        years, year = [], 0
        for _ in range(40):
            year += luck.randint(3, 7)
            years.append(year)
        # All are to enter at the age of year's end, so that each birth fixes its feast's year.
        for man in range(500):
            made.admit(man % 40 + 1, years[man % 40] - year)
        self.assertEqual(outlook(made, year, year), ("calendar", years))
        made.admit(17, years[16] - year - 1)
        self.assertEqual(self.clash(made, year, year)[1], 500)

    def test_two_among_500_men(self):
        made = house(gap=20, least=3, most=7)
        for man in range(498):
            made.admit(man % 20 + 1, -105)
        # These two let feast 9 be held in year 50 at the latest, and feast 10 in year 58 at the earliest.
        made.admit(9, -200)
        self.assertEqual(len(self.calendar(made, 100, 250)), 20)
        made.admit(10, -42)
        self.assertEqual(self.clash(made, 100, 250), [498, 499])
        made.die(498)
        self.assertEqual(len(self.calendar(made, 100, 250)), 20)


class TriedTest(OutlookCase):
    """Small houses, against all their calendars."""

    def test_against_all_calendars(self):
        luck = random.Random(18)
        words = {"calendar": 0, "one": 0, "two": 0}
        for _ in range(1200):
            least = luck.randint(1, 3)
            made = house(least=least, most=least + luck.randint(0, 2))
            go_on(made, luck.randint(0, 2))
            base = made.year()
            made.wait(luck.randint(0, made.rule().most))
            young = luck.randint(16, 20)
            old = young + luck.choice((0, 0, 1, 2, 5))
            for _ in range(luck.randint(0, 5)):
                feasts = luck.randint(-1, 4)
                year = base + feasts * least + luck.randint(0, abs(feasts) * (made.rule().most - least) + 1)
                made.admit(made.latest() + feasts, min(made.year(), year - luck.randint(young, old)))
            for man in range(made.many()):
                if luck.random() < 0.2:
                    made.die(man)
            words[self.check(made, young, old)] += 1
        self.assertGreater(min(words.values()), 100, words)

    def test_grown_houses(self):
        words = {"calendar": 0, "one": 0, "two": 0}
        for seed in range(60):
            made = grown(seed, deeds=60, opens=0, least=2, most=4)
            for young, old in ((0, 20), (2, 12), (0, 200)):
                words[self.check(made, young, old)] += 1
        self.assertGreater(words["calendar"], 10, words)
        self.assertGreater(words["one"] + words["two"], 10, words)


class KeptTest(Case):
    def crowd(self):
        made = house()
        made.admit(0, -20)
        made.admit(2, -9)
        made.admit(4, 0)
        return made

    def test_told_calendars_are_fresh(self):
        for made in (self.crowd(), house()):
            ahead = told_by_house(made)
            told = outlook(made, 5, 32)[1]
            wanted = list(told)
            told.append(5)
            told[0] = 99
            self.assertEqual(outlook(made, 5, 32), ("calendar", wanted))
            self.assertEqual(told_by_house(made), ahead)

    def test_told_calendars_do_not_go_on(self):
        made = self.crowd()
        told = outlook(made, 5, 32)[1]
        wanted = list(told)
        go_on(made, 2)
        self.assertEqual(told, wanted)

    def test_nothing_is_changed(self):
        made = self.crowd()
        ahead = told_by_house(made)
        for young, old in ((5, 32), (3, 4), (50, 50)):
            outlook(made, young, old)
        self.refused(BadAges, outlook, made, 1, 0)
        self.assertEqual(told_by_house(made), ahead)


if __name__ == "__main__":
    unittest.main()
