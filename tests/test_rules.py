"""Rules: points 2 and 3, and what point 1 says of a rule."""

import unittest

from agegrade.errors import BadRule, NoGrade
from agegrade.rules import Rule
from tests.helper import Case, USUAL, rule, told_by_rule


class BoundsTest(Case):
    def let(self, **changes):
        made = rule(**changes)
        wanted = {**USUAL, **changes}
        self.assertEqual(made.stays(), wanted.pop("stays"))
        for name, value in wanted.items():
            self.assertEqual(getattr(made, name), value, name)

    def bad(self, **changes):
        self.refused(BadRule, lambda: rule(**changes))

    def test_fields_by_place(self):
        made = Rule([2, 3], 4, 0, 1, 5, 6, 7)
        self.assertEqual(made.stays(), [2, 3])
        fields = (made.gap, made.opens, made.shuts, made.least, made.most, made.names)
        self.assertEqual(fields, (4, 0, 1, 5, 6, 7))

    def test_count_of_stays(self):
        self.let(stays=[1], opens=0, shuts=0)
        self.let(stays=[1] * 8)
        self.bad(stays=[], opens=0, shuts=0)
        self.bad(stays=[])
        self.bad(stays=[1] * 9)

    def test_each_stay(self):
        self.let(stays=[1, 6, 1])
        self.let(stays=[6, 1, 6])
        for bad in (0, 7, -1, 10 ** 30):
            self.bad(stays=[bad, 2, 2])
            self.bad(stays=[2, bad, 2])
            self.bad(stays=[2, 2, bad])

    def test_gap(self):
        self.let(gap=1)
        self.let(gap=60)
        self.bad(gap=0)
        self.bad(gap=61)
        self.bad(gap=-1)

    def test_opens_and_shuts(self):
        for opens in range(3):
            for shuts in range(opens, 3):
                self.let(opens=opens, shuts=shuts)
        self.bad(opens=-1)
        self.bad(opens=-1, shuts=-1)
        self.bad(opens=2, shuts=1)
        self.bad(opens=1, shuts=3)
        self.bad(opens=3, shuts=3)

    def test_least_and_most(self):
        self.let(least=1, most=1)
        self.let(least=1, most=40)
        self.let(least=40, most=40)
        self.bad(least=0)
        self.bad(least=0, most=0)
        self.bad(least=-3)
        self.bad(least=9, most=8)
        self.bad(most=41)
        self.bad(least=41, most=41)

    def test_names(self):
        self.let(names=1)
        self.let(names=60)
        self.bad(names=0)
        self.bad(names=61)
        self.bad(names=-7)


class GradesTest(Case):
    def test_grades_and_span(self):
        self.number(rule().grades(), 3)
        self.number(rule().span(), 6)
        one = rule(stays=[6], opens=0, shuts=0)
        self.number(one.grades(), 1)
        self.number(one.span(), 6)
        self.number(rule(stays=[6] * 8).span(), 48)

    def test_begin(self):
        made = rule(stays=[2, 1, 3, 5])
        self.assertEqual([made.begin(grade) for grade in range(4)], [0, 2, 3, 6])
        self.number(made.begin(0), 0)

    def test_no_grade_on_both_sides(self):
        made = rule()
        for grade in (-1, -3, 3, 4, 10 ** 20, -10 ** 20):
            self.refused(NoGrade, made.begin, grade)

    def test_grade_at_each_count(self):
        made = rule(stays=[2, 1, 3])
        wanted = [None, None, 0, 0, 1, 2, 2, 2, None, None]
        self.assertEqual([made.grade_at(stood) for stood in range(-2, 8)], wanted)
        self.number(made.grade_at(0), 0)

    def test_grade_at_each_beginning(self):
        made = rule(stays=[3, 6, 1, 1, 2, 5, 4, 2])
        for grade in range(made.grades()):
            begin = made.begin(grade)
            self.number(made.grade_at(begin), grade)
            self.number(made.grade_at(begin + made.stays()[grade] - 1), grade)
            self.assertEqual(made.grade_at(begin - 1), grade - 1 if grade else None)

    def test_grade_at_the_span_and_far_beyond(self):
        made = rule()
        self.number(made.grade_at(made.span() - 1), 2)
        for stood in (made.span(), made.span() + 1, 10 ** 20, -1, -2, -10 ** 20):
            self.assertIsNone(made.grade_at(stood))

    def test_fathering(self):
        made = rule(stays=[2, 1, 3, 1], opens=1, shuts=2)
        told = [made.fathering(stood) for stood in range(-1, 9)]
        self.assertEqual(told, [False, False, False, True, True, True, True, False, False, False])
        for stood in range(-1, 9):
            self.assertIs(type(made.fathering(stood)), bool)
        self.assertIs(made.fathering(10 ** 20), False)
        self.assertIs(made.fathering(-10 ** 20), False)

    def test_fathering_from_the_first_grade_to_the_last(self):
        made = rule(opens=0, shuts=2)
        self.assertEqual([made.fathering(stood) for stood in (-1, 0, 5, 6)], [False, True, True, False])

    def test_fathering_in_one_grade(self):
        made = rule(opens=1, shuts=1)
        self.assertEqual([made.fathering(stood) for stood in (1, 2, 3)], [False, True, False])


class KeptTest(Case):
    def test_handed_stays_are_not_changed_and_not_kept(self):
        stays = [2, 1, 3]
        made = rule(stays=stays)
        ahead = told_by_rule(made)
        self.assertEqual(stays, [2, 1, 3])
        stays[0] = 6
        stays.append(1)
        self.assertEqual(told_by_rule(made), ahead)

    def test_refused_stays_are_not_changed(self):
        stays = [2, 7, 3]
        self.refused(BadRule, lambda: rule(stays=stays))
        self.assertEqual(stays, [2, 7, 3])

    def test_told_stays_are_fresh(self):
        made = rule()
        ahead = told_by_rule(made)
        told = made.stays()
        self.assertIs(type(told), list)
        told[0] = 6
        told.append(1)
        self.assertEqual(told_by_rule(made), ahead)

    def test_a_refused_question_changes_nothing(self):
        made = rule()
        ahead = told_by_rule(made)
        self.refused(NoGrade, made.begin, 3)
        self.assertEqual(told_by_rule(made), ahead)


if __name__ == "__main__":
    unittest.main()
