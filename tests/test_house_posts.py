"""Posts of a house: points 10 and 11."""

import unittest

from agegrade.errors import BadPosts, Dead, Filled, NoMan, NoPost, Posted, TooSoon, Vacant, WrongGrade
from agegrade.house import House
from tests.helper import Case, go_on, house, rule, told_by_house


class MadeTest(Case):
    def test_posts(self):
        made = house([2, 0, 1, 0])
        self.assertEqual(made.posts(), [2, 0, 1, 0])
        self.assertEqual([made.holder(post) for post in range(4)], [None] * 4)
        self.assertEqual(house([]).posts(), [])

    def test_20_posts_and_21(self):
        self.assertEqual(house([1] * 20).posts(), [1] * 20)
        self.refused(BadPosts, house, [1] * 21)
        self.refused(BadPosts, house, [1] * 40)

    def test_no_grade_of_the_rule(self):
        for bad in (-1, 3, 10 ** 20, -10 ** 20):
            self.refused(BadPosts, house, [bad])
            self.refused(BadPosts, house, [0, 1, bad])
            self.refused(BadPosts, house, [bad, 1, 2])
        self.refused(BadPosts, House, rule(stays=[2], opens=0, shuts=0), [1])

    def test_no_post(self):
        made = house([0, 1])
        for post in (-1, 2, -2, 10 ** 20):
            self.refused(NoPost, made.holder, post)
        self.refused(NoPost, house([]).holder, 0)


class AppointTest(Case):
    def setUp(self):
        self.house = house([0, 2, 0, 1])
        self.young = self.house.admit(0, -10)
        self.old = self.house.admit(-5, -50)
        self.boy = self.house.admit(1, 0)

    def test_a_post_is_given(self):
        self.assertIsNone(self.house.appoint(2, self.young))
        self.number(self.house.holder(2), self.young)
        self.number(self.house.post_of(self.young), 2)
        self.assertIsNone(self.house.appoint(1, self.old))
        self.assertEqual([self.house.holder(post) for post in range(4)], [None, 1, 0, None])
        self.assertEqual([self.house.post_of(man) for man in range(3)], [2, 1, None])

    def test_post_0_and_man_0(self):
        self.house.appoint(0, 0)
        self.number(self.house.holder(0), 0)
        self.number(self.house.post_of(0), 0)
        self.refused(Posted, self.house.appoint, 2, 0)
        self.refused(Filled, self.house.appoint, 0, self.house.admit(0, 0))
        self.number(self.house.resign(0), 0)
        self.house.appoint(0, 0)
        self.number(self.house.die(0), 0)

    def test_no_post(self):
        for post in (-1, 4, -4, 10 ** 20):
            self.refused(NoPost, self.house.appoint, post, self.young)

    def test_no_man(self):
        for nobody in (-1, 3, 10 ** 20):
            self.refused(NoMan, self.house.appoint, 0, nobody)

    def test_dead(self):
        self.house.die(self.young)
        self.refused(Dead, self.house.appoint, 0, self.young)

    def test_wrong_grade(self):
        self.refused(WrongGrade, self.house.appoint, 1, self.young)
        self.refused(WrongGrade, self.house.appoint, 3, self.young)
        self.refused(WrongGrade, self.house.appoint, 0, self.old)
        go_on(self.house)
        self.assertEqual(self.house.stage(self.old), "past")
        for post in range(4):
            self.refused(WrongGrade, self.house.appoint, post, self.old)

    def test_the_waiting_have_no_post(self):
        for post in range(4):
            self.refused(WrongGrade, self.house.appoint, post, self.boy)

    def test_posted(self):
        self.house.appoint(0, self.young)
        self.refused(Posted, self.house.appoint, 2, self.young)

    def test_filled(self):
        self.house.appoint(0, self.young)
        self.refused(Filled, self.house.appoint, 0, self.house.admit(-1, 0))

    def test_no_post_goes_ahead_of_no_man(self):
        self.refused(NoPost, self.house.appoint, 4, 99)
        self.refused(NoPost, self.house.appoint, -1, -1)

    def test_no_post_goes_ahead_of_dead(self):
        self.house.die(self.young)
        self.refused(NoPost, self.house.appoint, 4, self.young)

    def test_no_man_goes_ahead_of_filled(self):
        self.house.appoint(0, self.young)
        self.refused(NoMan, self.house.appoint, 0, 99)

    def test_dead_goes_ahead_of_wrong_grade_and_filled(self):
        self.house.appoint(0, self.young)
        self.house.die(self.old)
        self.refused(Dead, self.house.appoint, 0, self.old)

    def test_wrong_grade_goes_ahead_of_posted(self):
        self.house.appoint(0, self.young)
        self.refused(WrongGrade, self.house.appoint, 1, self.young)

    def test_wrong_grade_goes_ahead_of_filled(self):
        self.house.appoint(0, self.young)
        self.refused(WrongGrade, self.house.appoint, 0, self.old)

    def test_posted_goes_ahead_of_filled(self):
        self.house.appoint(0, self.young)
        self.refused(Posted, self.house.appoint, 0, self.young)
        other = self.house.admit(0, 0)
        self.house.appoint(2, other)
        self.refused(Posted, self.house.appoint, 0, other)


class ResignTest(Case):
    def test_giving_back(self):
        made = house([0, 0])
        one, other = made.admit(0, 0), made.admit(0, 0)
        made.appoint(1, one)
        self.number(made.resign(1), one)
        self.assertIsNone(made.holder(1))
        self.assertIsNone(made.post_of(one))
        made.appoint(1, other)
        made.appoint(0, one)
        self.assertEqual((made.holder(0), made.holder(1)), (one, other))
        self.number(made.resign(1), other)
        self.assertEqual((made.holder(0), made.holder(1)), (one, None))

    def test_no_post_and_vacant(self):
        made = house([0, 0])
        man = made.admit(0, 0)
        for post in (-1, 2, 10 ** 20):
            self.refused(NoPost, made.resign, post)
        self.refused(Vacant, made.resign, 0)
        made.appoint(0, man)
        self.refused(Vacant, made.resign, 1)
        made.resign(0)
        self.refused(Vacant, made.resign, 0)


class FeastTest(Case):
    def test_who_loses_his_post(self):
        # Behind the next feast sets 0 and -3 stand in their old grade, sets -1, -2 and -5 no longer.
        made = house([0, 2, 1, 0, 2])
        men = {number: made.admit(number, 0) for number in (0, -1, -2, -3, -5)}
        for post, number in ((0, -1), (1, -5), (2, -2), (3, 0), (4, -3)):
            made.appoint(post, men[number])
        told = go_on(made)
        self.assertEqual(told, [(0, men[-1]), (1, men[-5]), (2, men[-2])])
        self.assertIs(type(told), list)
        for pair in told:
            self.assertIs(type(pair), tuple)
            self.assertEqual([type(thing) for thing in pair], [int, int])
        self.assertEqual([made.holder(post) for post in range(5)], [None, None, None, men[0], men[-3]])
        self.assertEqual([made.post_of(men[number]) for number in (-1, -5, -2)], [None] * 3)
        self.assertEqual([made.post_of(men[number]) for number in (0, -3)], [3, 4])

    def test_lesser_posts_first_and_not_lesser_men(self):
        made = house([0, 0, 0])
        men = [made.admit(-1, 0) for _ in range(3)]
        for post, man in zip((0, 1, 2), reversed(men)):
            made.appoint(post, man)
        self.assertEqual(go_on(made), [(0, 2), (1, 1), (2, 0)])

    def test_nobody_loses_a_post(self):
        made = house([0, 2])
        self.assertEqual(go_on(made), [])
        man = made.admit(1, 0)
        made.appoint(0, man)
        self.assertEqual(go_on(made), [])
        self.assertEqual(made.holder(0), man)
        self.assertEqual(go_on(made), [(0, man)])
        self.assertEqual(go_on(made), [])

    def test_a_post_given_back_is_not_told(self):
        made = house([0])
        made.appoint(0, made.admit(-1, 0))
        made.resign(0)
        self.assertEqual(go_on(made), [])

    def test_the_post_is_given_anew_behind_the_feast(self):
        made = house([0, 1])
        man = made.admit(-1, 0)
        made.appoint(0, man)
        go_on(made)
        made.appoint(1, man)
        other = made.admit(0, 0)
        made.appoint(0, other)
        self.assertEqual((made.holder(0), made.holder(1)), (other, man))
        self.assertEqual(go_on(made), [(0, other), (1, man)])

    def test_waiting_and_refused_feasts_part_nobody(self):
        made = house([0])
        man = made.admit(-1, 0)
        made.appoint(0, man)
        made.wait(4)
        self.refused(TooSoon, made.hold)
        self.assertEqual(made.holder(0), man)


class DeathTest(Case):
    def test_whoever_dies_leaves_his_post(self):
        made = house([0, 0])
        one, other = made.admit(0, 0), made.admit(0, 0)
        made.appoint(1, one)
        self.assertIsNone(made.die(other))
        self.assertEqual(made.holder(1), one)
        self.number(made.die(one), 1)
        self.assertIsNone(made.holder(1))
        self.assertIsNone(made.post_of(one))
        self.refused(Vacant, made.resign, 1)
        made.appoint(1, made.admit(0, 0))

    def test_the_dead_are_not_told_at_a_feast(self):
        made = house([0])
        man = made.admit(-1, 0)
        made.appoint(0, man)
        made.die(man)
        self.assertEqual(go_on(made), [])

    def test_posts_stay_through_other_deeds(self):
        made = house([2])
        father = made.admit(-3, 0)
        made.appoint(0, father)
        boy = made.bear(father)
        made.adopt(boy, father)
        made.wait(2)
        self.assertEqual(made.holder(0), father)
        ahead = told_by_house(made)
        made.die(made.admit(0, 0))
        self.assertEqual(told_by_house(made)[3], ahead[3])


if __name__ == "__main__":
    unittest.main()
