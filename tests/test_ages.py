"""Entries, entry ages and misfits: point 15."""

import unittest

from agegrade.ages import entry, entry_age, misfits
from agegrade.errors import BadAges, NoMan
from tests.helper import Case, go_on, grown, house, told_by_house


def aged():
    """A house behind feasts in the years 0, 6 and 13, in year 15.

    Its men are of the sets -2, 0, 2, 3, -1 and 4, and then a son of set 2 who was born in year 15.
    """
    made = house()
    made.admit(-2, -30)
    made.admit(0, -20)
    for years in (6, 7):
        made.wait(years)
        made.hold()
    made.admit(2, -7)
    made.admit(3, 10)
    made.admit(-1, 13)
    made.admit(4, 13)
    made.wait(2)
    made.bear(0)
    return made


class EntryTest(Case):
    def test_the_year_in_which_the_set_opened(self):
        made = aged()
        told = [entry(made, man) for man in range(7)]
        self.assertEqual(told, [None, 0, 13, None, None, None, 13])
        self.assertEqual([type(one) for one in told[1:3]], [int, int])

    def test_the_age_in_that_year(self):
        made = aged()
        told = [entry_age(made, man) for man in range(7)]
        self.assertEqual(told, [None, 20, 20, None, None, None, -2])
        self.assertEqual([type(one) for one in told[1:3]], [int, int])

    def test_a_set_below_0_is_never_known(self):
        made = house()
        for set_number in (-1, -5):
            made.admit(set_number, -9)
        for _ in range(8):
            self.assertEqual([entry(made, man) for man in (0, 1)], [None, None])
            self.assertEqual([entry_age(made, man) for man in (0, 1)], [None, None])
            go_on(made)

    def test_set_0_is_known_from_the_beginning_on(self):
        made = house()
        made.admit(0, 0)
        made.admit(0, -200)
        for _ in range(9):
            self.assertEqual([entry(made, man) for man in (0, 1)], [0, 0])
            self.number(entry_age(made, 0), 0)
            self.number(entry_age(made, 1), 200)
            go_on(made)

    def test_a_set_is_known_from_its_feast_on(self):
        made = house()
        made.admit(1, -3)
        made.wait(7)
        self.assertIsNone(entry(made, 0))
        self.assertIsNone(entry_age(made, 0))
        made.hold()
        self.assertEqual((entry(made, 0), entry_age(made, 0)), (7, 10))
        go_on(made, 9)
        self.assertEqual(made.stage(0), "past")
        self.assertEqual((entry(made, 0), entry_age(made, 0)), (7, 10))

    def test_a_son_whose_set_opened_ahead_of_his_birth(self):
        made = house(gap=1)
        made.admit(0, -20)
        go_on(made, 3)
        son = made.bear(0)
        self.assertEqual((made.set_of(son), entry(made, son), entry_age(made, son)), (1, 5, -10))

    def test_born_in_the_year_of_his_entry(self):
        made = house(opens=0, gap=1)
        made.admit(0, -20)
        made.wait(6)
        ahead = made.bear(0)
        made.hold()
        behind = made.bear(0)
        self.number(entry_age(made, ahead), 0)
        self.number(entry_age(made, behind), 0)

    def test_behind_an_adoption(self):
        made = house(gap=2, opens=0)
        older = made.admit(-2, -50)
        younger = made.admit(0, -30)
        boy = made.bear(younger)
        go_on(made)
        self.assertEqual((entry(made, boy), entry_age(made, boy)), (None, None))
        made.adopt(boy, older)
        self.assertEqual((made.set_of(boy), entry(made, boy), entry_age(made, boy)), (0, 0, 0))
        other = made.bear(younger)
        made.adopt(other, older)
        self.assertEqual((entry(made, other), entry_age(made, other)), (0, -5))
        third = made.admit(3, -1)
        made.adopt(third, younger)
        go_on(made)
        self.assertEqual((entry(made, third), entry_age(made, third)), (10, 11))

    def test_adopted_into_a_set_below_0(self):
        made = house(gap=1, opens=0)
        made.admit(-2, -50)
        made.admit(1, -9)
        made.adopt(1, 0)
        self.assertEqual((made.set_of(1), entry(made, 1), entry_age(made, 1)), (-1, None, None))

    def test_the_dead(self):
        made = aged()
        wanted = [(entry(made, man), entry_age(made, man)) for man in range(7)]
        for man in range(7):
            made.die(man)
        self.assertEqual([(entry(made, man), entry_age(made, man)) for man in range(7)], wanted)
        go_on(made)
        self.assertEqual(entry_age(made, 3), made.year() - 10)

    def test_no_man(self):
        for tell in (entry, entry_age):
            for man in (-1, 7, 8, -7, 10 ** 20, -10 ** 20):
                self.refused(NoMan, tell, aged(), man)
            for man in (-1, 0):
                self.refused(NoMan, tell, house(), man)


class MisfitsTest(Case):
    def ages(self):
        """A house whose men have the entry ages 20, 10, 15, 16, 0, -5, and two whose entry isn't known."""
        made = house()
        for age in (20, 10, 15, 16, 0):
            made.admit(0, -age)
        made.wait(5)
        made.admit(0, 5)
        made.admit(-1, -30)
        made.admit(1, -30)
        return made

    def test_who_is_too_young_or_too_old(self):
        made = self.ages()
        self.assertEqual([entry_age(made, man) for man in range(8)], [20, 10, 15, 16, 0, -5, None, None])
        self.assertEqual(misfits(made, 10, 16), [0, 4, 5])
        self.assertIs(type(misfits(made, 10, 16)), list)

    def test_both_edges(self):
        made = self.ages()
        self.assertEqual(misfits(made, 10, 15), [0, 3, 4, 5])
        self.assertEqual(misfits(made, 11, 16), [0, 1, 4, 5])
        self.assertEqual(misfits(made, 10, 20), [4, 5])
        self.assertEqual(misfits(made, 10, 19), [0, 4, 5])
        self.assertEqual(misfits(made, 15, 15), [0, 1, 3, 4, 5])
        self.assertEqual(misfits(made, -5, 20), [])
        self.assertEqual(misfits(made, -4, 20), [5])
        self.assertEqual(misfits(made, -9, -5), [0, 1, 2, 3, 4])
        self.assertEqual(misfits(made, 0, 0), [0, 1, 2, 3, 5])
        self.assertEqual(misfits(made, 100, 200), [0, 1, 2, 3, 4, 5])

    def test_the_dead_are_among_them(self):
        made = self.ages()
        for man in (0, 2, 4, 7):
            made.die(man)
        self.assertEqual(misfits(made, 10, 16), [0, 4, 5])

    def test_the_unknown_are_left_out(self):
        made = self.ages()
        self.assertEqual(misfits(made, 1000, 2000), [0, 1, 2, 3, 4, 5])
        made.hold()
        self.assertEqual(misfits(made, 1000, 2000), [0, 1, 2, 3, 4, 5, 7])
        self.assertEqual(misfits(made, 0, 34), [5, 7])
        self.assertEqual(misfits(made, 0, 35), [5])

    def test_an_empty_house(self):
        self.assertEqual(misfits(house(), 0, 0), [])

    def test_bad_ages(self):
        for made in (self.ages(), house()):
            for young, old in ((16, 15), (1, 0), (0, -1), (-1, -2), (10 ** 20, 0)):
                self.refused(BadAges, misfits, made, young, old)
            self.assertIs(type(misfits(made, 15, 15)), list)

    def test_against_the_entry_ages(self):
        for seed in range(15):
            made = grown(seed, opens=0, gap=2)
            for young, old in ((0, 0), (-3, 12), (5, 60)):
                wanted = [
                    man for man in range(made.many())
                    if 0 <= made.set_of(man) <= made.latest()
                    and not young <= made.held(made.set_of(man)) - made.born(man) <= old
                ]
                self.assertEqual(misfits(made, young, old), wanted)


class KeptTest(Case):
    def test_told_lists_are_fresh(self):
        made = aged()
        ahead = told_by_house(made)
        told = misfits(made, 0, 5)
        told.append(5)
        told[0] = 99
        self.assertEqual(misfits(made, 0, 5), [1, 2, 6])
        self.assertEqual(told_by_house(made), ahead)

    def test_told_lists_do_not_go_on(self):
        made = aged()
        told = misfits(made, 0, 5)
        go_on(made, 2)
        self.assertEqual(told, [1, 2, 6])
        self.assertEqual(misfits(made, 0, 5), [1, 2, 3, 5, 6])

    def test_nothing_is_changed(self):
        made = aged()
        ahead = told_by_house(made)
        for man in range(made.many()):
            entry(made, man)
            entry_age(made, man)
        misfits(made, 0, 5)
        self.refused(BadAges, misfits, made, 1, 0)
        self.refused(NoMan, entry, made, 7)
        self.refused(NoMan, entry_age, made, -1)
        self.assertEqual(told_by_house(made), ahead)


if __name__ == "__main__":
    unittest.main()
