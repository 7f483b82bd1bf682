"""The ring of names: point 14."""

import math
import unittest

from agegrade.errors import BadMany
from agegrade.rings import class_of, classes, names_of, ring_round
from tests.helper import Case, go_on, house, rule, told_by_rule

# Of each gap and count of names: the round and the count of classes.
TOLD = {
    (4, 7): (7, 1), (7, 4): (4, 1), (1, 60): (60, 1), (59, 60): (60, 1),
    (4, 6): (3, 2), (6, 4): (2, 2), (12, 18): (3, 6), (60, 45): (3, 15), (45, 60): (4, 15),
    (5, 5): (1, 5), (60, 60): (1, 60), (1, 1): (1, 1),
    (10, 5): (1, 5), (5, 10): (2, 5), (30, 60): (2, 30), (60, 30): (1, 30),
    (9, 1): (1, 1), (60, 1): (1, 1),
}


class RoundTest(Case):
    def test_round_and_classes(self):
        for (gap, names), (turn, many) in TOLD.items():
            with self.subTest(gap=gap, names=names):
                self.number(ring_round(rule(gap=gap, names=names)), turn)
                self.number(classes(rule(gap=gap, names=names)), many)

    def test_of_all_gaps_and_names(self):
        for gap in range(1, 61):
            for names in range(1, 61):
                law = rule(gap=gap, names=names)
                turn = min(many for many in range(1, 61) if many * gap % names == 0)
                self.assertEqual((ring_round(law), classes(law)), (turn, math.gcd(gap, names)))


class ClassTest(Case):
    def test_class_of_a_set(self):
        law = rule(gap=4, names=6)
        for set_number, wanted in ((0, 0), (1, 1), (2, 0), (7, 1), (-1, 1), (-2, 0), (-3, 1)):
            self.number(class_of(law, set_number), wanted)
        law = rule(gap=60, names=45)
        for set_number, wanted in ((0, 0), (14, 14), (15, 0), (44, 14), (-1, 14), (-15, 0), (-16, 14), (-46, 14)):
            self.number(class_of(law, set_number), wanted)

    def test_one_class_alone(self):
        for law in (rule(gap=4, names=7), rule(gap=9, names=1)):
            for set_number in (-100, -1, 0, 1, 99):
                self.number(class_of(law, set_number), 0)

    def test_equal_gap_and_names(self):
        law = rule(gap=5, names=5)
        self.assertEqual([class_of(law, set_number) for set_number in range(-6, 7)],
                         [4, 0, 1, 2, 3, 4, 0, 1, 2, 3, 4, 0, 1])

    def test_a_name_is_of_one_class(self):
        for gap, names in TOLD:
            law = rule(gap=gap, names=names)
            for set_number in range(-130, 130):
                self.assertEqual(class_of(law, set_number), class_of(law, set_number % names))
                self.assertEqual(class_of(law, set_number), class_of(law, set_number + gap))

    def test_fathers_and_sons_are_of_one_class(self):
        for gap, names in ((4, 6), (3, 9), (6, 6)):
            made = house(gap=gap, names=names, opens=0)
            for set_number in range(-5, 1):
                father = made.admit(set_number, 0)
                son = made.bear(father)
                go_on(made)
                law = made.rule()
                self.assertEqual(class_of(law, made.set_of(father)), class_of(law, made.set_of(son)))


class NamesTest(Case):
    def test_names_of_a_line(self):
        law = rule(gap=4, names=7)
        self.assertEqual(names_of(law, 0, 9), [0, 4, 1, 5, 2, 6, 3, 0, 4])
        self.assertEqual(names_of(law, 10, 3), [3, 0, 4])
        law = rule(gap=10, names=4)
        self.assertEqual(names_of(law, 3, 5), [3, 1, 3, 1, 3])

    def test_sets_below_0(self):
        law = rule(gap=4, names=7)
        self.assertEqual(names_of(law, -1, 4), [6, 3, 0, 4])
        self.assertEqual(names_of(law, -14, 2), [0, 4])
        self.assertEqual(names_of(law, -9, 4), [5, 2, 6, 3])

    def test_one_name_alone(self):
        self.assertEqual(names_of(rule(gap=9, names=1), -3, 4), [0, 0, 0, 0])

    def test_equal_gap_and_names(self):
        self.assertEqual(names_of(rule(gap=5, names=5), -3, 4), [2, 2, 2, 2])

    def test_how_many(self):
        law = rule(gap=4, names=6)
        self.assertEqual(names_of(law, 5, 0), [])
        self.assertEqual(names_of(law, 5, 1), [5])
        told = names_of(law, 5, 200)
        self.assertEqual(told, [5, 3, 1] * 66 + [5, 3])
        self.assertIs(type(told), list)

    def test_too_few_and_too_many(self):
        for many in (-1, 201, -200, 10 ** 20, -10 ** 20):
            self.refused(BadMany, names_of, rule(), 0, many)

    def test_the_round_brings_the_name_again(self):
        for gap, names in TOLD:
            law = rule(gap=gap, names=names)
            turn = ring_round(law)
            for set_number in (-61, -1, 0, 17):
                told = names_of(law, set_number, turn + 1)
                self.assertEqual(told[0], told[turn])
                self.assertEqual(len(set(told)), turn)

    def test_as_men_are_called(self):
        made = house(gap=1, names=4, opens=0)
        man = made.admit(-5, 0)
        called = []
        for _ in range(5):
            called.append(made.name_of(man))
            man = made.bear(man)
        self.assertEqual(called, names_of(made.rule(), -5, 5))


class KeptTest(Case):
    def test_nothing_is_changed(self):
        law = rule()
        ahead = told_by_rule(law)
        told = names_of(law, 0, 3)
        told.append(1)
        told[0] = 5
        self.assertEqual(names_of(law, 0, 3), [0, 4, 1])
        self.refused(BadMany, names_of, law, 0, 201)
        for tell in (ring_round, classes):
            tell(law)
        class_of(law, 3)
        self.assertEqual(told_by_rule(law), ahead)


if __name__ == "__main__":
    unittest.main()
