"""Ways that are played: point 22."""

import random
import unittest

from agegrade.ages import entry_age
from agegrade.drift import ages_to, bands, played
from agegrade.errors import BadAges, BadBand, BadBeat
from agegrade.house import House
from tests.helper import Case, any_rule, any_terms, go_on, rule, sons_ages, told_by_house, told_by_rule


class PlayedTest(Case):
    def play(self, law, beat, entry, ages):
        """What is played is held against the words of the point; the house and the men are told."""
        handed = list(ages)
        told = played(law, beat, entry, handed)
        self.assertEqual(handed, list(ages))
        self.assertIs(type(told), tuple)
        made, men = told
        self.assertEqual((type(made), type(men)), (House, list))
        self.assertEqual(men, list(range(len(ages) + 1)))
        self.assertEqual((made.posts(), made.many()), ([], len(ages) + 1))
        births = [-entry]
        for age in ages:
            births.append(births[-1] + age)
        self.assertEqual([made.born(man) for man in men], births)
        self.assertEqual([made.father_of(man) for man in men], [None] + men[:-1])
        self.assertEqual([made.set_of(man) for man in men], [man * law.gap for man in men])
        self.assertTrue(all(made.alive(man) for man in men))
        end = births[-1] if ages else 0
        self.assertEqual(made.year(), end)
        self.assertEqual(made.latest(), end // beat)
        self.assertEqual([made.held(feast) for feast in range(made.latest() + 1)], list(range(0, end + 1, beat)))
        return made, men

    def test_usual(self):
        made, men = self.play(rule(), 5, 15, [30, 20])
        self.assertEqual((made.year(), made.latest(), men), (35, 7, [0, 1, 2]))
        self.assertEqual([entry_age(made, man) for man in men], [15, 5, None])

    def test_no_age(self):
        for entry in (0, 15, 200):
            made, men = self.play(rule(), 5, entry, [])
            self.assertEqual((made.year(), made.latest(), made.born(0)), (0, 0, -entry))

    def test_feasts_are_the_first_deed_of_their_year(self):
        law = rule()
        # Sets begin to have sons in year 10, behind that year's feast, and have ended in year 30.
        made, men = self.play(law, 5, 15, [25])
        self.assertEqual((made.year(), made.latest()), (10, 2))
        self.refused(BadAges, played, law, 5, 15, [24])
        made, men = self.play(law, 5, 15, [44])
        self.assertEqual((made.year(), made.latest()), (29, 5))
        self.refused(BadAges, played, law, 5, 15, [45])

    def test_a_father_of_the_day_of_his_entry(self):
        law = rule(opens=0)
        made, men = self.play(law, 5, 15, [15])
        self.assertEqual((made.year(), made.latest(), made.born(1)), (0, 0, 0))
        self.play(law, 5, 1, [1])
        self.refused(BadAges, played, law, 5, 15, [14])
        self.refused(BadAges, played, law, 5, 200, [1])
        self.refused(BadAges, played, law, 5, 0, [0])

    def test_entry_ages(self):
        law = rule(opens=0)
        for entry in (0, 1, 199, 200):
            self.play(law, 5, entry, [entry + 7])
        for entry in (-1, 201, -200, 10 ** 20):
            self.refused(BadBand, played, law, 5, entry, [20])
            self.refused(BadBand, played, law, 5, entry, [])

    def test_ages_below_1(self):
        # By this rule sons are born into sets that have opened, so that their sets alone would let them have sons.
        law = rule(opens=0, gap=1)
        for age in (0, -1, -30):
            self.refused(BadAges, played, law, 5, 15, [age])
            self.refused(BadAges, played, law, 5, 15, [25, age])
            self.refused(BadAges, played, law, 5, 15, [age, 25])
        self.play(law, 5, 15, [25, 1])
        self.play(law, 5, 15, [25, 1, 1])
        self.refused(BadAges, played, law, 5, 15, [25, 1, 1, 1])

    def test_a_later_age_at_which_the_set_has_no_sons(self):
        law = rule()
        made, men = self.play(law, 5, 15, [30, 15])
        self.assertEqual((made.year(), made.stood(1)), (30, 2))
        self.refused(BadAges, played, law, 5, 15, [30, 14])
        made, men = self.play(law, 5, 15, [30, 34])
        self.assertEqual((made.year(), made.stood(1)), (49, 5))
        self.refused(BadAges, played, law, 5, 15, [30, 35])
        self.refused(BadAges, played, law, 5, 15, [30, 10 ** 20])

    def test_beats(self):
        law = rule()
        for beat in (5, 6, 7, 8):
            self.play(law, beat, 10, [10 + 3 * beat, 4 * beat])
            self.play(law, beat, 10, [9 + 3 * beat])
            self.refused(BadAges, played, law, beat, 10, [9 + 2 * beat])

    def test_thirty_ages(self):
        law = rule()
        made, men = self.play(law, 5, 15, [30] + [20] * 29)
        self.assertEqual((made.many(), made.year()), (31, 595))
        law = rule(stays=[6] * 8, opens=7, shuts=7, gap=60, least=40, most=40)
        made, men = self.play(law, 40, 0, [1700] + [2400] * 29)
        self.assertEqual(made.latest(), (1700 + 29 * 2400) // 40)

    def test_ways_are_played_to_their_goals(self):
        luck = random.Random(24)
        done = 0
        for _ in range(800):
            law = any_rule(luck, most=6)
            beat, young, old = any_terms(luck, law)
            entry, many = luck.randint(0, 15), luck.randint(1, 8)
            told = bands(law, beat, young, old, entry, many)
            if len(told) <= many:
                continue
            goal = luck.randint(*told[-1])
            way = ages_to(law, beat, young, old, entry, goal, many)
            made, men = self.play(law, beat, entry, way)
            while made.stood(men[-1]) < 0:
                made.wait(made.held(made.latest()) + beat - made.year())
                made.hold()
            self.assertEqual(entry_age(made, men[-1]), goal)
            for age, band in zip([entry_age(made, man) for man in men], told):
                self.assertTrue(band[0] <= age <= band[1])
            done += 1
        self.assertGreater(done, 60)

    def test_ages_that_are_refused_against_trying(self):
        luck = random.Random(25)
        words = {True: 0, False: 0}
        for _ in range(1000):
            law = any_rule(luck)
            beat = luck.randint(law.least, law.most)
            entry, age = luck.randint(0, 15), luck.randint(-2, 40)
            can = age >= 1 and bool(sons_ages(law, beat, age, age, entry))
            words[can] += 1
            if can:
                self.play(law, beat, entry, [age])
            else:
                self.refused(BadAges, played, law, beat, entry, [age])
        self.assertGreater(min(words.values()), 100)

    def test_bad_beat(self):
        law = rule()
        for beat in (4, 9, 0, -5, 10 ** 20):
            self.refused(BadBeat, played, law, beat, 15, [30])
            self.refused(BadBeat, played, law, beat, 15, [])

    def test_the_order_of_refusals(self):
        law = rule()
        self.refused(BadBeat, played, law, 4, 201, [0])
        self.refused(BadBeat, played, law, 4, -1, [30])
        self.refused(BadBeat, played, law, 9, 15, [0])
        self.refused(BadBand, played, law, 5, 201, [0])
        self.refused(BadBand, played, law, 5, -1, [0])
        self.refused(BadBand, played, law, 5, -1, [500])


class KeptTest(Case):
    def test_nothing_that_is_handed_in_is_changed(self):
        law = rule()
        ahead = told_by_rule(law)
        ages = [30, 20]
        played(law, 5, 15, ages)
        self.assertEqual(ages, [30, 20])
        bad = [30, 0]
        self.refused(BadAges, played, law, 5, 15, bad)
        self.assertEqual(bad, [30, 0])
        self.assertEqual(told_by_rule(law), ahead)

    def test_what_is_played_is_fresh(self):
        law = rule()
        ages = [30, 20]
        made, men = played(law, 5, 15, ages)
        other, same = played(law, 5, 15, ages)
        ahead = told_by_house(other)
        self.assertEqual((told_by_house(made), men), (ahead, same))
        ages.append(25)
        ages[0] = 99
        self.assertEqual(told_by_house(made), ahead)
        men.clear()
        self.assertEqual(told_by_house(made), ahead)
        go_on(made)
        made.bear(1)
        self.assertEqual(told_by_house(other), ahead)
        self.assertEqual(same, [0, 1, 2])


if __name__ == "__main__":
    unittest.main()
