"""Men of a house: points 6 to 9."""

import unittest

from agegrade.errors import BadYears, Dead, NoFeast, NoMan, NoSet, NotFathering, NotWaiting, NoYear, Overdue, TooSoon
from agegrade.feasts import Feasts
from agegrade.rules import Rule
from tests.helper import Case, go_on, house, rule, told_by_clock, told_by_rule, told_of_man

# With the usual rule and feast 0 as the latest one, sets -5 to 0 stand, sets -5 to -2 father sons.
QUESTIONS = (
    "set_of", "born", "father_of", "alive", "stood", "stage", "grade_of", "name_of", "sons_of", "post_of",
)


class YearsTest(Case):
    def test_years_and_feasts_go_as_of_feasts(self):
        made, clock = house(), Feasts(rule())
        for years in (5, 8, 6, 7):
            for thing in (made, clock):
                self.assertIsNone(thing.wait(years))
                thing.hold()
            self.assertEqual(told_by_clock(made), told_by_clock(clock))

    def test_refusals_as_of_feasts(self):
        made = house()
        self.refused(BadYears, made.wait, -1)
        self.refused(Overdue, made.wait, 9)
        self.refused(TooSoon, made.hold)
        made.wait(4)
        self.refused(TooSoon, made.hold)
        made.wait(4)
        self.refused(Overdue, made.wait, 1)
        for feast in (-1, 1):
            self.refused(NoFeast, made.held, feast)
        for feast in (-1, 0):
            self.refused(NoFeast, made.window, feast)
        made.hold()
        self.number(made.held(1), 8)
        self.number(made.year(), 8)
        self.number(made.latest(), 1)
        self.assertEqual(made.window(2), (13, 16))

    def test_the_rule(self):
        made = house(gap=9)
        self.assertIsInstance(made.rule(), Rule)
        self.assertEqual(told_by_rule(made.rule()), told_by_rule(rule(gap=9)))


class SetsTest(Case):
    def test_stood_grade_and_stage_from_waiting_to_past(self):
        made = house()
        man = made.admit(2, 0)
        told = [(made.stood(man), made.stage(man), made.grade_of(man))]
        for _ in range(10):
            go_on(made)
            told.append((made.stood(man), made.stage(man), made.grade_of(man)))
        self.assertEqual(told, [
            (-2, "waiting", None), (-1, "waiting", None), (0, "standing", 0), (1, "standing", 0),
            (2, "standing", 1), (3, "standing", 2), (4, "standing", 2), (5, "standing", 2),
            (6, "past", None), (7, "past", None), (8, "past", None),
        ])
        self.number(made.set_of(man), 2)

    def test_of_the_dead_too(self):
        made = house()
        boy, man = made.admit(1, 0), made.admit(-5, 0)
        made.die(boy)
        made.die(man)
        self.assertEqual((made.stage(boy), made.stage(man)), ("waiting", "standing"))
        go_on(made)
        self.assertEqual((made.stage(boy), made.stage(man)), ("standing", "past"))
        self.assertEqual((made.stood(boy), made.stood(man)), (0, 6))
        self.assertEqual((made.grade_of(boy), made.grade_of(man)), (0, None))

    def test_sets_below_0(self):
        made = house()
        men = [made.admit(number, 0) for number in range(-5, 1)]
        self.assertEqual([made.set_of(man) for man in men], [-5, -4, -3, -2, -1, 0])
        self.assertEqual([made.stood(man) for man in men], [5, 4, 3, 2, 1, 0])
        self.assertEqual([made.grade_of(man) for man in men], [2, 2, 2, 1, 0, 0])
        self.assertEqual([made.stage(man) for man in men], ["standing"] * 6)

    def test_names(self):
        made = house(names=4)
        men = [made.admit(number, 0) for number in range(-5, 5)]
        self.assertEqual([made.name_of(man) for man in men], [3, 0, 1, 2, 3, 0, 1, 2, 3, 0])
        one = house(names=1)
        self.assertEqual([one.name_of(one.admit(number, 0)) for number in (-5, 0, 4)], [0, 0, 0])

    def test_names_do_not_go_on_with_the_feasts(self):
        made = house(names=7)
        man = made.admit(-3, 0)
        go_on(made, 5)
        self.number(made.name_of(man), 4)


class AdmitTest(Case):
    def test_what_is_told_of_a_stranger(self):
        made = house()
        self.number(made.many(), 0)
        self.number(made.admit(-3, -30), 0)
        self.assertEqual(told_of_man(made, 0), (-3, -30, None, True, 3, "standing", 2, 4, [], None))
        self.assertIs(made.alive(0), True)
        self.number(made.admit(2, 0), 1)
        self.assertEqual(told_of_man(made, 1), (2, 0, None, True, -2, "waiting", None, 2, [], None))
        self.number(made.many(), 2)

    def test_each_let_set_and_one_beyond(self):
        for feasts in range(9):
            made = house()
            go_on(made, feasts)
            for number in range(feasts - 5, feasts + 5):
                self.assertEqual(made.set_of(made.admit(number, made.year())), number)
            for number in (feasts - 6, feasts + 5, feasts - 10 ** 20, feasts + 10 ** 20):
                self.refused(NoSet, made.admit, number, made.year())

    def test_the_next_sets_by_gap(self):
        for gap in (1, 60):
            made = house(gap=gap)
            self.assertEqual(made.set_of(made.admit(gap, 0)), gap)
            self.refused(NoSet, made.admit, gap + 1, 0)

    def test_each_let_year_of_birth_and_one_beyond(self):
        made = house()
        go_on(made, 2)
        self.number(made.born(made.admit(0, 10)), 10)
        self.number(made.born(made.admit(0, -190)), -190)
        for born in (11, -191, 10 ** 20, -10 ** 20):
            self.refused(NoYear, made.admit, 0, born)
        made.wait(1)
        self.number(made.born(made.admit(0, 11)), 11)
        self.refused(NoYear, made.admit, 0, -190)

    def test_no_set_goes_ahead_of_no_year(self):
        made = house()
        for born in (1, -201):
            self.refused(NoSet, made.admit, 5, born)
            self.refused(NoSet, made.admit, -6, born)

    def test_more_than_500_men_are_not_refused(self):
        made = house()
        men = [made.admit(0, 0) for _ in range(510)]
        self.assertEqual(men, list(range(510)))


class BearTest(Case):
    def test_what_is_told_of_a_son(self):
        made = house()
        father = made.admit(-2, -20)
        made.wait(3)
        self.number(made.bear(father), 1)
        self.assertEqual(told_of_man(made, 1), (2, 3, father, True, -2, "waiting", None, 2, [], None))
        self.assertEqual(made.sons_of(father), [1])
        self.number(made.many(), 2)

    def test_each_fathering_grade_and_one_beyond(self):
        made = house(stays=[2, 1, 3, 1], opens=1, shuts=2)
        man = made.admit(0, 0)
        let = []
        for feast in range(9):
            try:
                made.bear(man)
                let.append(feast)
            except NotFathering:
                pass
            go_on(made)
        self.assertEqual(let, [2, 3, 4, 5])

    def test_the_waiting_and_the_past_father_no_sons(self):
        made = house(opens=0, shuts=2)
        boy, man = made.admit(1, 0), made.admit(-5, 0)
        self.refused(NotFathering, made.bear, boy)
        made.bear(man)
        go_on(made)
        made.bear(boy)
        self.refused(NotFathering, made.bear, man)

    def test_a_sons_set_that_has_opened(self):
        made = house()
        sons = [made.bear(made.admit(number, 0)) for number in (-5, -4, -3)]
        self.assertEqual([made.set_of(son) for son in sons], [-1, 0, 1])
        self.assertEqual([made.stage(son) for son in sons], ["standing", "standing", "waiting"])
        self.assertEqual([made.stood(son) for son in sons], [1, 0, -1])

    def test_refusals(self):
        made = house()
        young, man = made.admit(0, 0), made.admit(-2, 0)
        for nobody in (-1, 2, -2, 10 ** 20):
            self.refused(NoMan, made.bear, nobody)
        self.refused(NotFathering, made.bear, young)
        made.die(man)
        self.refused(Dead, made.bear, man)

    def test_dead_goes_ahead_of_not_fathering(self):
        made = house()
        young = made.admit(0, 0)
        made.die(young)
        self.refused(Dead, made.bear, young)

    def test_numbers_go_on_through_strangers_sons_and_refusals(self):
        made = house()
        father = made.admit(-2, 0)
        self.refused(NoSet, made.admit, 5, 0)
        self.assertEqual(made.bear(father), 1)
        self.refused(NoMan, made.bear, 2)
        self.assertEqual(made.admit(0, 0), 2)
        made.die(1)
        self.assertEqual(made.bear(father), 3)
        self.assertEqual(made.many(), 4)

    def test_sons_lesser_numbers_first(self):
        made = house()
        one, other = made.admit(-2, 0), made.admit(-3, 0)
        for father in (one, other, one, one, other):
            made.bear(father)
        self.assertEqual(made.sons_of(one), [2, 4, 5])
        self.assertEqual(made.sons_of(other), [3, 6])
        self.assertEqual(made.sons_of(2), [])

    def test_dead_sons_are_sons(self):
        made = house()
        father = made.admit(-2, 0)
        son = made.bear(father)
        made.die(son)
        made.die(father)
        self.assertEqual(made.sons_of(father), [son])
        self.assertEqual(made.father_of(son), father)


class AdoptTest(Case):
    def setUp(self):
        self.house = house()
        self.old = self.house.admit(-4, -40)
        self.father = self.house.admit(-2, -20)
        self.youth = self.house.admit(0, -10)
        self.boy = self.house.bear(self.father)

    def test_another_father(self):
        other = self.house.admit(-3, -25)
        self.house.wait(4)
        self.assertIsNone(self.house.adopt(self.boy, other))
        self.assertEqual(self.house.father_of(self.boy), other)
        self.number(self.house.set_of(self.boy), 1)
        self.assertEqual(self.house.sons_of(self.father), [])
        self.assertEqual(self.house.sons_of(other), [self.boy])

    def test_all_else_stays(self):
        other = self.house.admit(-3, -25)
        self.house.wait(4)
        men = [told_of_man(self.house, man) for man in (self.old, self.youth)]
        self.house.adopt(self.boy, other)
        self.assertEqual(told_of_man(self.house, self.boy), (1, 0, other, True, -1, "waiting", None, 1, [], None))
        self.assertEqual([told_of_man(self.house, man) for man in (self.old, self.youth)], men)
        self.assertEqual(told_of_man(self.house, other)[:8], (-3, -25, None, True, 3, "standing", 2, 4))
        self.assertEqual(self.house.many(), 5)
        self.assertEqual((self.house.year(), self.house.latest()), (4, 0))

    def test_a_stranger_is_adopted(self):
        stranger = self.house.admit(4, -7)
        self.house.adopt(stranger, self.father)
        self.assertEqual(self.house.father_of(stranger), self.father)
        self.assertEqual(self.house.set_of(stranger), 2)
        self.assertEqual(self.house.born(stranger), -7)
        self.assertEqual(self.house.sons_of(self.father), [self.boy, stranger])

    def test_sons_stand_by_number_and_not_by_adoption(self):
        stranger = self.house.admit(4, 0)
        other = self.house.admit(-3, 0)
        later = self.house.bear(other)
        self.house.adopt(stranger, other)
        self.house.adopt(self.boy, other)
        self.assertEqual(self.house.sons_of(other), [self.boy, stranger, later])

    def test_into_a_set_that_has_opened(self):
        self.house.adopt(self.boy, self.old)
        self.assertEqual((self.house.set_of(self.boy), self.house.stage(self.boy)), (0, "standing"))
        self.refused(NotWaiting, self.house.adopt, self.boy, self.father)

    def test_by_the_father_of_before(self):
        ahead = told_of_man(self.house, self.boy)
        self.house.adopt(self.boy, self.father)
        self.assertEqual(told_of_man(self.house, self.boy), ahead)
        self.assertEqual(self.house.sons_of(self.father), [self.boy])

    def test_back_to_the_father_of_before(self):
        other = self.house.admit(-3, 0)
        ahead = told_of_man(self.house, self.boy)
        self.house.adopt(self.boy, other)
        self.house.adopt(self.boy, self.father)
        self.assertEqual(told_of_man(self.house, self.boy), ahead)
        self.assertEqual(self.house.sons_of(other), [])

    def test_no_man(self):
        for nobody in (-1, 4, 10 ** 20):
            self.refused(NoMan, self.house.adopt, nobody, self.father)
            self.refused(NoMan, self.house.adopt, self.boy, nobody)

    def test_dead(self):
        self.house.die(self.father)
        self.refused(Dead, self.house.adopt, self.boy, self.father)
        self.house.die(self.boy)
        self.refused(Dead, self.house.adopt, self.boy, self.old)

    def test_not_waiting(self):
        self.refused(NotWaiting, self.house.adopt, self.youth, self.father)
        go_on(self.house, 2)
        self.assertEqual(self.house.stood(self.boy), 0)
        self.refused(NotWaiting, self.house.adopt, self.boy, self.father)
        go_on(self.house, 6)
        self.assertEqual(self.house.stage(self.boy), "past")
        self.refused(NotWaiting, self.house.adopt, self.boy, self.father)

    def test_not_fathering(self):
        self.refused(NotFathering, self.house.adopt, self.boy, self.youth)
        self.refused(NotFathering, self.house.adopt, self.boy, self.boy)
        go_on(self.house)
        past = self.house.admit(-4, 0)
        self.house.adopt(self.boy, past)
        other = self.house.admit(3, 0)
        go_on(self.house)
        self.assertEqual(self.house.stage(past), "past")
        self.refused(NotFathering, self.house.adopt, other, past)

    def test_no_man_goes_ahead_of_dead(self):
        self.house.die(self.boy)
        self.house.die(self.father)
        self.refused(NoMan, self.house.adopt, self.boy, 99)
        self.refused(NoMan, self.house.adopt, 99, self.father)

    def test_dead_goes_ahead_of_not_waiting(self):
        self.house.die(self.father)
        self.refused(Dead, self.house.adopt, self.youth, self.father)
        self.house.die(self.youth)
        self.refused(Dead, self.house.adopt, self.youth, self.old)

    def test_dead_goes_ahead_of_not_fathering(self):
        self.house.die(self.youth)
        self.refused(Dead, self.house.adopt, self.boy, self.youth)
        self.house.die(self.boy)
        self.refused(Dead, self.house.adopt, self.boy, self.house.admit(0, 0))

    def test_not_waiting_goes_ahead_of_not_fathering(self):
        self.refused(NotWaiting, self.house.adopt, self.youth, self.youth)
        self.refused(NotWaiting, self.house.adopt, self.youth, self.boy)


class DieTest(Case):
    def test_a_man_dies_once(self):
        made = house()
        man, other = made.admit(0, 0), made.admit(0, 0)
        self.assertIsNone(made.die(man))
        self.assertIs(made.alive(man), False)
        self.assertIs(made.alive(other), True)
        self.refused(Dead, made.die, man)
        self.number(made.many(), 2)

    def test_the_waiting_and_the_past_die(self):
        made = house()
        boy, man = made.admit(4, 0), made.admit(-5, 0)
        go_on(made)
        self.assertIsNone(made.die(boy))
        self.assertIsNone(made.die(man))
        self.assertEqual((made.alive(boy), made.alive(man)), (False, False))

    def test_nobody_dies(self):
        made = house()
        self.refused(NoMan, made.die, 0)
        made.admit(0, 0)
        for nobody in (-1, 1, 10 ** 20):
            self.refused(NoMan, made.die, nobody)

    def test_of_the_dead_all_is_told_as_of_the_living(self):
        made = house()
        made.admit(-2, -20)
        made.bear(0)
        ahead = [list(told_of_man(made, man)) for man in (0, 1)]
        made.die(0)
        made.die(1)
        for man in (0, 1):
            ahead[man][3] = False
            self.assertEqual(list(told_of_man(made, man)), ahead[man])

    def test_questions_about_nobody(self):
        made = house([0])
        for question in QUESTIONS:
            self.refused(NoMan, getattr(made, question), 0)
        made.admit(0, 0)
        made.admit(0, 0)
        for question in QUESTIONS:
            for nobody in (-1, -2, 2, 10 ** 20):
                self.refused(NoMan, getattr(made, question), nobody)


if __name__ == "__main__":
    unittest.main()
