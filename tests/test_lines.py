"""The lines of a house: point 13."""

import unittest

from agegrade.errors import NoMan
from agegrade.lines import below, fathers, meeting
from tests.helper import Case, go_on, grown, house, told_by_house

# In the old house below these are the numbers of the men.
FIRST, SON, BROTHER, OTHER, OTHERS_SON, GRANDSON, COUSIN, TAKEN, LONELY = range(9)
NOBODY = 9


def old():
    """A house of two lines, three generations each, one of them with an adopted man."""
    made = house()
    made.admit(-2, -30)
    made.bear(FIRST)
    made.bear(FIRST)
    made.admit(-3, -40)
    made.bear(OTHER)
    go_on(made, 4)
    made.bear(SON)
    made.bear(BROTHER)
    made.bear(OTHERS_SON)
    made.admit(5, 3)
    return made


def behind_adoptions():
    """A house in which a boy is taken by a man who came behind him, and has a son himself."""
    made = house(stays=[1, 6], opens=1, shuts=1)
    boy = made.admit(1, -1)
    father = made.admit(-2, -20)
    made.adopt(boy, father)
    go_on(made, 3)
    son = made.bear(boy)
    return made, boy, father, son


class FathersTest(Case):
    def test_without_a_father(self):
        made = old()
        self.assertEqual(fathers(made, FIRST), [FIRST])
        self.assertEqual(fathers(made, LONELY), [LONELY])
        self.assertIs(type(fathers(made, FIRST)), list)

    def test_of_sons(self):
        made = old()
        self.assertEqual(fathers(made, SON), [SON, FIRST])
        self.assertEqual(fathers(made, BROTHER), [BROTHER, FIRST])
        self.assertEqual(fathers(made, OTHERS_SON), [OTHERS_SON, OTHER])

    def test_of_a_sons_son(self):
        made = old()
        self.assertEqual(fathers(made, GRANDSON), [GRANDSON, SON, FIRST])
        self.assertEqual(fathers(made, COUSIN), [COUSIN, BROTHER, FIRST])

    def test_behind_an_adoption(self):
        made = old()
        self.assertEqual(fathers(made, TAKEN), [TAKEN, OTHERS_SON, OTHER])
        made.adopt(TAKEN, SON)
        self.assertEqual(fathers(made, TAKEN), [TAKEN, SON, FIRST])
        made.adopt(LONELY, OTHERS_SON)
        self.assertEqual(fathers(made, LONELY), [LONELY, OTHERS_SON, OTHER])

    def test_a_father_who_came_behind_his_son(self):
        made, boy, father, son = behind_adoptions()
        self.assertLess(boy, father)
        self.assertEqual(fathers(made, boy), [boy, father])
        self.assertEqual(fathers(made, son), [son, boy, father])

    def test_the_dead_are_told_of_too(self):
        made = old()
        made.die(SON)
        made.die(GRANDSON)
        self.assertEqual(fathers(made, GRANDSON), [GRANDSON, SON, FIRST])


class BelowTest(Case):
    def test_with_sons_and_sons_sons(self):
        made = old()
        self.assertEqual(below(made, FIRST), [FIRST, SON, BROTHER, GRANDSON, COUSIN])
        self.assertEqual(below(made, SON), [SON, GRANDSON])
        self.assertEqual(below(made, OTHER), [OTHER, OTHERS_SON, TAKEN])
        self.assertIs(type(below(made, FIRST)), list)

    def test_with_nobody_else(self):
        made = old()
        for man in (GRANDSON, COUSIN, TAKEN, LONELY):
            self.assertEqual(below(made, man), [man])

    def test_with_an_adopted_man(self):
        made = old()
        made.adopt(TAKEN, SON)
        self.assertEqual(below(made, FIRST), [FIRST, SON, BROTHER, GRANDSON, COUSIN, TAKEN])
        self.assertEqual(below(made, SON), [SON, GRANDSON, TAKEN])
        self.assertEqual(below(made, OTHERS_SON), [OTHERS_SON])
        self.assertEqual(below(made, OTHER), [OTHER, OTHERS_SON])

    def test_lesser_numbers_come_first(self):
        made, boy, father, son = behind_adoptions()
        self.assertEqual(below(made, father), [boy, father, son])
        self.assertEqual(below(made, boy), [boy, son])

    def test_the_dead_are_told_of_too(self):
        made = old()
        for man in (FIRST, SON, GRANDSON):
            made.die(man)
        self.assertEqual(below(made, FIRST), [FIRST, SON, BROTHER, GRANDSON, COUSIN])


class MeetingTest(Case):
    def test_with_himself(self):
        made = old()
        for man in range(made.many()):
            self.assertEqual(meeting(made, man, man), (man, 0, 0))

    def test_of_brothers(self):
        made = old()
        self.assertEqual(meeting(made, SON, BROTHER), (FIRST, 1, 1))
        self.assertEqual(meeting(made, BROTHER, SON), (FIRST, 1, 1))

    def test_of_a_man_and_his_sons_son(self):
        made = old()
        self.assertEqual(meeting(made, FIRST, GRANDSON), (FIRST, 0, 2))
        self.assertEqual(meeting(made, GRANDSON, FIRST), (FIRST, 2, 0))
        self.assertEqual(meeting(made, SON, GRANDSON), (SON, 0, 1))
        self.assertEqual(meeting(made, GRANDSON, SON), (SON, 1, 0))

    def test_of_a_man_and_his_brothers_son(self):
        made = old()
        self.assertEqual(meeting(made, BROTHER, GRANDSON), (FIRST, 1, 2))
        self.assertEqual(meeting(made, GRANDSON, BROTHER), (FIRST, 2, 1))
        self.assertEqual(meeting(made, GRANDSON, COUSIN), (FIRST, 2, 2))

    def test_the_nearest_one_is_told(self):
        made = old()
        second = made.bear(SON)
        self.assertEqual(meeting(made, GRANDSON, second), (SON, 1, 1))

    def test_of_two_lines(self):
        made = old()
        for man, other in ((FIRST, OTHER), (GRANDSON, TAKEN), (SON, OTHERS_SON), (LONELY, FIRST)):
            self.assertIsNone(meeting(made, man, other))
            self.assertIsNone(meeting(made, other, man))

    def test_behind_an_adoption(self):
        made = old()
        made.adopt(TAKEN, SON)
        self.assertEqual(meeting(made, TAKEN, COUSIN), (FIRST, 2, 2))
        self.assertIsNone(meeting(made, TAKEN, OTHER))

    def test_kinds(self):
        told = meeting(old(), SON, GRANDSON)
        self.assertIs(type(told), tuple)
        for one, wanted in zip(told, (SON, 0, 1), strict=True):
            self.number(one, wanted)


class RefusedTest(Case):
    def test_no_man(self):
        made = old()
        ahead = told_by_house(made)
        for nobody in (-1, -NOBODY, NOBODY, NOBODY + 1, 10 ** 20, -10 ** 20):
            self.refused(NoMan, fathers, made, nobody)
            self.refused(NoMan, below, made, nobody)
            self.refused(NoMan, meeting, made, nobody, SON)
            self.refused(NoMan, meeting, made, SON, nobody)
            self.refused(NoMan, meeting, made, nobody, nobody)
        self.assertEqual(told_by_house(made), ahead)

    def test_nobody_came(self):
        for nobody in (-1, 0):
            self.refused(NoMan, fathers, house(), nobody)
            self.refused(NoMan, below, house(), nobody)
            self.refused(NoMan, meeting, house(), nobody, nobody)


class KeptTest(Case):
    def test_told_lists_are_fresh(self):
        made = old()
        ahead = told_by_house(made)
        for tell in (fathers, below):
            told = tell(made, SON)
            wanted = list(told)
            told.append(OTHER)
            told[0] = LONELY
            self.assertEqual(tell(made, SON), wanted)
        self.assertEqual(told_by_house(made), ahead)

    def test_told_lists_do_not_go_on(self):
        made = old()
        told, line = below(made, SON), fathers(made, TAKEN)
        made.adopt(TAKEN, SON)
        self.assertEqual((told, line), ([SON, GRANDSON], [TAKEN, OTHERS_SON, OTHER]))


class GrownTest(Case):
    """Houses behind long runs of deeds."""

    def test_all_hangs_together(self):
        deepest = 0
        for seed in range(12):
            made = grown(seed, gap=1 + seed % 4, opens=0, shuts=2)
            ahead = told_by_house(made)
            men = range(made.many())
            lines = [fathers(made, man) for man in men]
            deepest = max([deepest] + [len(line) for line in lines])
            for man in men:
                self.check_line(made, man, lines[man])
                self.assertEqual(below(made, man), [one for one in men if man in lines[one]])
                for other in men:
                    self.check_meeting(meeting(made, man, other), lines[man], lines[other])
            self.assertEqual(told_by_house(made), ahead)
        self.assertGreater(deepest, 4)

    def check_line(self, made, man, line):
        self.assertEqual(line[0], man)
        for son, father in zip(line, line[1:]):
            self.assertEqual(made.father_of(son), father)
        self.assertIsNone(made.father_of(line[-1]))
        self.assertEqual(made.set_of(man), made.set_of(line[-1]) + (len(line) - 1) * made.rule().gap)

    def check_meeting(self, told, line, other_line):
        if told is None:
            self.assertFalse(set(line) & set(other_line))
        else:
            met, steps, other_steps = told
            self.assertEqual((line[steps], other_line[other_steps]), (met, met))
            self.assertFalse(set(line[:steps]) & set(other_line))

    def test_a_line_of_500(self):
        made = house(stays=[6] * 8, gap=1, opens=0, shuts=7)
        made.admit(-40, 0)
        for man in range(499):
            if not made.rule().fathering(made.stood(man)):
                go_on(made)
            made.bear(man)
        self.assertEqual(fathers(made, 499), list(range(499, -1, -1)))
        self.assertEqual(below(made, 0), list(range(500)))
        self.assertEqual(meeting(made, 499, 0), (0, 499, 0))
        self.assertEqual(made.set_of(499), 459)


if __name__ == "__main__":
    unittest.main()
