"""Bands of sons, bands of a line and ways to a goal: points 20 and 21."""

import random
import unittest

from agegrade.ages import entry_age
from agegrade.drift import ages_to, bands, sons_band
from agegrade.errors import BadAges, BadBand, BadBeat, BadMany
from agegrade.house import House
from tests.helper import Case, any_rule, any_terms, rule, sons_ages, told_by_rule

NO_AGES = ((0, 5), (6, 5), (1, 121), (121, 121), (-1, 5), (0, 0), (-5, -1), (120, 119), (2, 1))
NO_BANDS = ((1, 0), (16, 15), (0, -1), (-1, -2))


def tried_band(law, beat, young, old, band):
    ages = set()
    for one in range(band[0], band[1] + 1):
        ages |= sons_ages(law, beat, young, old, one)
    if not ages:
        return None
    assert ages == set(range(min(ages), max(ages) + 1))
    return (min(ages), max(ages))


class BandCase(Case):
    def pair(self, told, wanted):
        self.assertEqual(told, wanted)
        if told is not None:
            self.assertIs(type(told), tuple)
            self.assertEqual([type(part) for part in told], [int, int])


class SonsBandTest(BandCase):
    def test_usual(self):
        # Sets have sons from year 10 to 29 behind their opening, and sons' sets open in year 20.
        law = rule()
        self.pair(sons_band(law, 5, 20, 40, (15, 15)), (-5, 10))
        self.pair(sons_band(law, 5, 20, 40, (10, 20)), (-9, 10))
        self.pair(sons_band(law, 5, 30, 35, (15, 15)), (0, 5))
        self.pair(sons_band(law, 5, 30, 35, (15, 18)), (0, 8))

    def test_the_first_and_the_last_year_of_the_grades(self):
        law = rule()
        for entry, age, wanted in (
            (15, 25, (10, 10)), (15, 24, None), (15, 44, (-9, -9)), (15, 45, None), (-5, 5, (10, 10)), (-5, 4, None),
            (0, 10, (10, 10)), (0, 9, None), (0, 29, (-9, -9)), (0, 30, None), (-20, 9, (-9, -9)), (-20, 10, None),
        ):
            self.pair(sons_band(law, 5, age, age, (entry, entry)), wanted)

    def test_the_beat(self):
        law = rule()
        self.pair(sons_band(law, 8, 1, 120, (10, 10)), (-15, 16))
        self.pair(sons_band(law, 5, 1, 120, (10, 10)), (-9, 10))
        self.pair(sons_band(law, 6, 1, 120, (10, 10)), (-11, 12))

    def test_only_a_part_of_the_band_has_sons(self):
        law = rule()
        self.pair(sons_band(law, 5, 20, 25, (-100, 100)), (-9, 10))
        self.pair(sons_band(law, 5, 20, 25, (15, 100)), (10, 10))
        self.pair(sons_band(law, 5, 20, 25, (-100, -9)), (-9, -9))
        self.pair(sons_band(law, 5, 20, 25, (14, 100)), (9, 10))

    def test_none(self):
        law = rule()
        self.assertIsNone(sons_band(law, 5, 20, 25, (16, 100)))
        self.assertIsNone(sons_band(law, 5, 20, 25, (-100, -10)))
        self.assertIsNone(sons_band(law, 5, 1, 120, (111, 111)))
        self.pair(sons_band(law, 5, 1, 120, (110, 110)), (10, 10))
        self.assertIsNone(sons_band(law, 5, 1, 120, (-29, -29)))
        self.pair(sons_band(law, 5, 1, 120, (-28, -28)), (-9, -9))

    def test_a_wide_band(self):
        self.pair(sons_band(rule(), 5, 1, 120, (-10 ** 20, 10 ** 20)), (-9, 10))

    def test_each_number_between(self):
        luck = random.Random(2)
        for _ in range(100):
            law = any_rule(luck)
            beat, young, old = any_terms(luck, law)
            band = sons_band(law, beat, young, old, (-3, 12))
            if band is not None:
                ages = set().union(*[sons_ages(law, beat, young, old, one) for one in range(-3, 13)])
                self.assertEqual(ages, set(range(band[0], band[1] + 1)))

    def test_against_all_sons(self):
        luck = random.Random(20)
        nones = 0
        for _ in range(1500):
            law = any_rule(luck)
            beat, young, old = any_terms(luck, law)
            low = luck.randint(-25, 25)
            band = (low, low + luck.choice((0, 0, 1, 4, 20)))
            told = sons_band(law, beat, young, old, band)
            self.pair(told, tried_band(law, beat, young, old, band))
            nones += told is None
        self.assertTrue(200 < nones < 1300, nones)

    def test_sons_in_houses(self):
        """The sons of a man in a house whose feasts are held every beat years, as the first deed of their year."""
        luck = random.Random(3)
        for _ in range(40):
            law = any_rule(luck)
            beat, young, old = any_terms(luck, law)
            entry = luck.randint(0, 12)
            made = House(law, [])
            man = made.admit(0, -entry)
            sons = []
            for year in range(law.span() * beat + 1):
                if year:
                    made.wait(1)
                if year and year % beat == 0:
                    made.hold()
                if young <= year + entry <= old and law.fathering(made.stood(man)):
                    sons.append(made.bear(man))
            for _ in range(law.gap):
                made.wait(made.held(made.latest()) + beat - made.year())
                made.hold()
            ages = [entry_age(made, son) for son in sons]
            wanted = (min(ages), max(ages)) if ages else None
            self.pair(sons_band(law, beat, young, old, (entry, entry)), wanted)


class BandsTest(BandCase):
    def test_usual(self):
        law = rule()
        told = bands(law, 5, 30, 35, 15, 3)
        self.assertEqual(told, [(15, 15), (0, 5), (-9, -5)])
        self.assertIs(type(told), list)
        for band in told:
            self.pair(band, band)

    def test_none_asked(self):
        for entry in (0, 15, -3, 1000, -1000):
            self.assertEqual(bands(rule(), 5, 20, 40, entry, 0), [(entry, entry)])

    def test_as_many_as_asked(self):
        law = rule()
        for many in range(31):
            told = bands(law, 5, 18, 40, 15, many)
            self.assertEqual(len(told), many + 1)
            self.assertEqual(told[0], (15, 15))

    def test_they_end_ahead_of_a_none(self):
        law = rule()
        self.assertEqual(bands(law, 5, 20, 25, 16, 30), [(16, 16)])
        self.assertEqual(bands(law, 5, 20, 25, 16, 1), [(16, 16)])
        self.assertEqual(bands(law, 5, 40, 45, 20, 30), [(20, 20), (-5, 0)])
        for many in (1, 2, 30):
            self.assertEqual(len(bands(law, 5, 40, 45, 20, many)), 2)

    def test_each_is_the_band_of_sons_of_the_one_ahead(self):
        luck = random.Random(21)
        lengths = []
        for _ in range(300):
            law = any_rule(luck)
            beat, young, old = any_terms(luck, law)
            entry, many = luck.randint(-10, 20), luck.randint(0, 30)
            told = bands(law, beat, young, old, entry, many)
            wanted = [(entry, entry)]
            while len(wanted) <= many:
                band = tried_band(law, beat, young, old, wanted[-1])
                if band is None:
                    break
                wanted.append(band)
            self.assertEqual(told, wanted)
            lengths.append(len(told))
        self.assertGreater(len(set(lengths)), 10)

    def test_told_lists_are_fresh(self):
        law = rule()
        for many in (0, 2, 30):
            told = bands(law, 5, 18, 40, 15, many)
            wanted = list(told)
            told.append((1, 2))
            told[0] = (3, 4)
            self.assertEqual(bands(law, 5, 18, 40, 15, many), wanted)


class AgesToTest(Case):
    def check(self, law, beat, young, old, entry, goal, way):
        """The way's ages lead from the entry age to the goal, step by step."""
        self.assertIs(type(way), list)
        for age in way:
            self.assertIs(type(age), int)
            self.assertTrue(young <= age <= old, way)
            year = age - entry
            self.assertTrue(law.fathering(year // beat), way)
            entry = law.gap * beat - year
        self.assertEqual(entry, goal, way)

    def reached(self, law, beat, young, old, entry, many):
        """All entry ages behind so many generations, found by trying each age at each step."""
        ages = {entry}
        for _ in range(many):
            ages = set().union(*[sons_ages(law, beat, young, old, one) for one in ages])
        return ages

    def test_no_generation(self):
        for entry in (0, 15, -7, 500):
            self.assertEqual(ages_to(rule(), 5, 20, 40, entry, entry, 0), [])
            for goal in (entry - 1, entry + 1):
                self.assertIsNone(ages_to(rule(), 5, 20, 40, entry, goal, 0))

    def test_one_generation(self):
        law = rule()
        for goal in range(-5, 11):
            self.assertEqual(ages_to(law, 5, 20, 40, 15, goal, 1), [35 - goal])
        for goal in (-6, 11, 100, -100):
            self.assertIsNone(ages_to(law, 5, 20, 40, 15, goal, 1))

    def test_two_generations(self):
        law = rule()
        for goal in range(-5, 11):
            way = ages_to(law, 5, 20, 30, 15, goal, 2)
            self.assertEqual(len(way), 2)
            self.check(law, 5, 20, 30, 15, goal, way)
        self.assertIsNone(ages_to(law, 5, 20, 30, 15, -6, 2))
        self.assertIsNone(ages_to(law, 5, 20, 30, 15, 11, 2))

    def test_thirty_generations(self):
        law = rule()
        for goal in (-9, 0, 10):
            way = ages_to(law, 5, 18, 40, 15, goal, 30)
            self.assertEqual(len(way), 30)
            self.check(law, 5, 18, 40, 15, goal, way)

    def test_a_line_that_ends(self):
        law = rule()
        self.assertEqual(bands(law, 5, 40, 45, 20, 30), [(20, 20), (-5, 0)])
        self.assertIsNotNone(ages_to(law, 5, 40, 45, 20, 0, 1))
        for many in (2, 3, 30):
            for goal in (-5, 0, 20):
                self.assertIsNone(ages_to(law, 5, 40, 45, 20, goal, many))
        self.assertIsNone(ages_to(law, 5, 20, 25, 16, 16, 1))

    def test_just_one_way(self):
        law = rule(stays=[1], opens=0, shuts=0, gap=3, least=1, most=1)
        self.assertEqual(ages_to(law, 1, 3, 3, 3, 3, 30), [3] * 30)
        self.assertIsNone(ages_to(law, 1, 3, 3, 3, 2, 30))
        self.assertIsNone(ages_to(law, 1, 3, 3, 4, 3, 1))

    def test_against_all_ways(self):
        luck = random.Random(22)
        found = lost = 0
        for _ in range(1200):
            law = any_rule(luck, most=3)
            beat, young, old = any_terms(luck, law)
            entry, many = luck.randint(-6, 15), luck.randint(0, 4)
            reached = self.reached(law, beat, young, old, entry, many)
            middle = luck.choice(sorted(reached) or [entry])
            for goal in (middle, middle - 1, middle + 1, min(reached, default=0) - 1, max(reached, default=0) + 1,
                         luck.randint(-15, 20)):
                way = ages_to(law, beat, young, old, entry, goal, many)
                if goal in reached:
                    self.assertEqual(len(way), many)
                    self.check(law, beat, young, old, entry, goal, way)
                    found += many > 0
                else:
                    self.assertIsNone(way)
                    lost += 1
        self.assertGreater(min(found, lost), 300)

    def test_long_ways_of_any_rule(self):
        luck = random.Random(23)
        found = 0
        for _ in range(1000):
            law = any_rule(luck, most=9)
            beat, young, old = any_terms(luck, law)
            entry, many = luck.randint(-6, 15), luck.randint(5, 30)
            told = bands(law, beat, young, old, entry, many)
            if len(told) > many:
                for goal in {told[-1][0], luck.randint(*told[-1]), told[-1][1]}:
                    way = ages_to(law, beat, young, old, entry, goal, many)
                    self.assertEqual(len(way), many)
                    self.check(law, beat, young, old, entry, goal, way)
                    found += 1
                self.assertIsNone(ages_to(law, beat, young, old, entry, told[-1][0] - 1, many))
                self.assertIsNone(ages_to(law, beat, young, old, entry, told[-1][1] + 1, many))
        self.assertGreater(found, 50)

    def test_told_lists_are_fresh(self):
        law = rule()
        for goal, many in ((15, 0), (3, 1), (3, 30)):
            told = ages_to(law, 5, 18, 40, 15, goal, many)
            wanted = list(told)
            told.append(5)
            told[0] = 99
            self.assertEqual(ages_to(law, 5, 18, 40, 15, goal, many), wanted)


class RefusedTest(Case):
    def test_bad_beat(self):
        law = rule()
        for beat in (4, 9, 0, -5, 10 ** 20):
            self.refused(BadBeat, sons_band, law, beat, 20, 40, (15, 15))
            self.refused(BadBeat, bands, law, beat, 20, 40, 15, 3)
            self.refused(BadBeat, ages_to, law, beat, 20, 40, 15, 3, 1)
        for beat in (5, 8):
            sons_band(law, beat, 20, 40, (15, 15))
            bands(law, beat, 20, 40, 15, 3)
            ages_to(law, beat, 20, 40, 15, 3, 1)

    def test_bad_ages(self):
        law = rule()
        for young, old in NO_AGES:
            self.refused(BadAges, sons_band, law, 5, young, old, (15, 15))
            self.refused(BadAges, bands, law, 5, young, old, 15, 3)
            self.refused(BadAges, ages_to, law, 5, young, old, 15, 3, 1)
        for young, old in ((1, 1), (1, 120), (120, 120), (20, 20)):
            sons_band(law, 5, young, old, (15, 15))
            self.assertIs(type(bands(law, 5, young, old, 15, 3)), list)
            ages_to(law, 5, young, old, 15, 3, 1)

    def test_bad_band(self):
        law = rule()
        for band in NO_BANDS:
            self.refused(BadBand, sons_band, law, 5, 20, 40, band)
        for band in ((15, 15), (0, 0), (-1, 0), (-2, -1)):
            sons_band(law, 5, 20, 40, band)

    def test_bad_many(self):
        law = rule()
        for many in (-1, 31, -30, 10 ** 20):
            self.refused(BadMany, bands, law, 5, 20, 40, 15, many)
            self.refused(BadMany, ages_to, law, 5, 20, 40, 15, 15, many)
            # It is refused, too, where the line ends long ahead of it.
            self.refused(BadMany, bands, law, 5, 20, 25, 16, many)
            self.refused(BadMany, ages_to, law, 5, 20, 25, 16, 16, many)

    def test_their_order(self):
        law = rule()
        self.refused(BadBeat, sons_band, law, 4, 0, 121, (1, 0))
        self.refused(BadBeat, sons_band, law, 9, 20, 40, (1, 0))
        self.refused(BadAges, sons_band, law, 5, 0, 121, (1, 0))
        self.refused(BadBeat, bands, law, 4, 6, 5, 15, -1)
        self.refused(BadBeat, bands, law, 4, 5, 6, 15, 31)
        self.refused(BadAges, bands, law, 5, 6, 5, 15, 31)
        self.refused(BadBeat, ages_to, law, 9, 6, 5, 15, 15, 31)
        self.refused(BadBeat, ages_to, law, 9, 5, 6, 15, 15, -1)
        self.refused(BadAges, ages_to, law, 8, 6, 5, 15, 15, -1)


class KeptTest(Case):
    def test_the_rule_stays_as_it_is(self):
        law = rule()
        ahead = told_by_rule(law)
        sons_band(law, 5, 20, 40, (15, 15))
        bands(law, 5, 20, 40, 15, 5)
        ages_to(law, 5, 20, 40, 15, 3, 4)
        self.assertEqual(told_by_rule(law), ahead)


if __name__ == "__main__":
    unittest.main()
