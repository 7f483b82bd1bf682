"""The men in the grades, the muster and the filling: point 12."""

import unittest

from agegrade.errors import NoGrade, NoPost
from agegrade.muster import fill, filling, free_men, men_in, muster
from tests.helper import Case, go_on, grown, house, told_by_house


def full(posts=()):
    """A house with six men in grade 0, one in grade 1, three in grade 2, two who wait and one who is past."""
    made = house(posts)
    made.admit(-5, -90)
    go_on(made)
    year = made.year()
    for set_number, age in (
        (1, 20), (0, 25), (1, 30), (1, 20), (0, 20), (1, 0), (-1, 7), (-2, 50), (-4, 60), (-3, 50), (2, 5), (5, 0),
    ):
        made.admit(set_number, year - age)
    return made


class MenInTest(Case):
    def test_the_earlier_born_come_first(self):
        made = full()
        self.assertEqual(men_in(made, 0), [3, 2, 1, 4, 5, 6])
        self.assertEqual(men_in(made, 1), [7])
        self.assertEqual(men_in(made, 2), [9, 8, 10])
        self.assertIs(type(men_in(made, 0)), list)

    def test_of_one_year_the_lesser_number_comes_first(self):
        made = house()
        for born in (-3, -3, -7, -3, -7, -3):
            made.admit(0, born)
        self.assertEqual(men_in(made, 0), [2, 4, 0, 1, 3, 5])

    def test_the_dead_are_left_out(self):
        made = full()
        for man in (3, 4, 7, 10):
            made.die(man)
        self.assertEqual([men_in(made, grade) for grade in range(3)], [[2, 1, 5, 6], [], [9, 8]])

    def test_who_waits_or_is_past_is_in_no_grade(self):
        made = house()
        made.admit(-5, 0)
        made.admit(1, 0)
        self.assertEqual([men_in(made, grade) for grade in range(3)], [[], [], [0]])
        go_on(made)
        self.assertEqual([men_in(made, grade) for grade in range(3)], [[1], [], []])

    def test_who_has_a_post_is_in_his_grade(self):
        made = full([0])
        made.appoint(0, 3)
        self.assertEqual(men_in(made, 0), [3, 2, 1, 4, 5, 6])

    def test_an_empty_house(self):
        self.assertEqual([men_in(house(), grade) for grade in range(3)], [[], [], []])

    def test_no_grade(self):
        for made in (full(), house()):
            for grade in (-1, 3, -3, 10 ** 20, -10 ** 20):
                self.refused(NoGrade, men_in, made, grade)
        self.refused(NoGrade, men_in, house(stays=[2], opens=0, shuts=0), 1)


class MusterTest(Case):
    def test_all_are_told(self):
        made = full()
        told = muster(made)
        self.assertEqual(told, (2, [6, 1, 3], 1))
        self.assertEqual([type(part) for part in told], [int, list, int])
        self.assertIs(type(told), tuple)

    def test_the_dead_are_left_out(self):
        made = full()
        for man in (0, 1, 7, 11):
            made.die(man)
        self.assertEqual(muster(made), (1, [5, 0, 3], 0))
        made.die(12)
        self.assertEqual(muster(made), (0, [5, 0, 3], 0))

    def test_an_empty_house(self):
        self.assertEqual(muster(house()), (0, [0, 0, 0], 0))
        self.assertEqual(muster(house(stays=[1], opens=0, shuts=0)), (0, [0], 0))

    def test_behind_a_feast(self):
        made = full()
        go_on(made)
        self.assertEqual(muster(made), (1, [5, 2, 3], 2))

    def test_edges_of_the_stages(self):
        made = house()
        made.admit(1, 0)
        made.admit(0, 0)
        made.admit(-5, 0)
        self.assertEqual(muster(made), (1, [1, 0, 1], 0))
        go_on(made)
        self.assertEqual(muster(made), (0, [2, 0, 0], 1))


class FreeMenTest(Case):
    def test_men_in_the_grade_of_the_post(self):
        made = full([2, 0, 1, 0])
        self.assertEqual(free_men(made, 0), [9, 8, 10])
        self.assertEqual(free_men(made, 1), [3, 2, 1, 4, 5, 6])
        self.assertEqual(free_men(made, 2), [7])
        self.assertEqual(free_men(made, 3), [3, 2, 1, 4, 5, 6])
        self.assertIs(type(free_men(made, 0)), list)

    def test_who_has_a_post_is_not_free(self):
        made = full([0, 0, 2])
        made.appoint(0, 3)
        made.appoint(1, 1)
        self.assertEqual(free_men(made, 0), [2, 4, 5, 6])
        self.assertEqual(free_men(made, 1), [2, 4, 5, 6])
        self.assertEqual(free_men(made, 2), [9, 8, 10])
        made.resign(0)
        self.assertEqual(free_men(made, 1), [3, 2, 4, 5, 6])

    def test_man_0_and_post_0(self):
        made = house([0, 0])
        made.admit(0, 0)
        self.assertEqual(free_men(made, 1), [0])
        made.appoint(0, 0)
        self.assertEqual(free_men(made, 1), [])

    def test_the_dead_are_left_out(self):
        made = full([2])
        made.die(9)
        self.assertEqual(free_men(made, 0), [8, 10])

    def test_no_post(self):
        made = full([0, 2])
        for post in (-1, 2, -2, 10 ** 20, -10 ** 20):
            self.refused(NoPost, free_men, made, post)
        for post in (-1, 0):
            self.refused(NoPost, free_men, full(), post)


class FillingTest(Case):
    def test_several_posts_of_one_grade(self):
        made = full([0, 2, 0, 2, 0])
        self.assertEqual(filling(made), [(0, 3), (1, 9), (2, 2), (3, 8), (4, 1)])

    def test_fewer_men_than_posts(self):
        made = full([1, 1, 2, 1, 2, 2, 2, 0])
        self.assertEqual(filling(made), [(0, 7), (2, 9), (4, 8), (5, 10), (7, 3)])

    def test_posts_that_are_taken(self):
        made = full([0, 0, 1, 0])
        made.appoint(1, 2)
        made.appoint(2, 7)
        self.assertEqual(filling(made), [(0, 3), (3, 1)])
        made.appoint(0, 3)
        made.appoint(3, 6)
        self.assertEqual(filling(made), [])

    def test_man_0_takes_one_post_alone(self):
        made = house([0, 0])
        made.admit(0, 0)
        self.assertEqual(filling(made), [(0, 0)])
        made.appoint(1, 0)
        self.assertEqual(filling(made), [])

    def test_no_post(self):
        self.assertEqual(filling(full()), [])
        self.assertEqual(fill(full()), [])

    def test_no_man(self):
        self.assertEqual(filling(house([0, 1, 2])), [])
        self.assertEqual(fill(house([0, 1, 2])), [])

    def test_the_dead_are_left_out(self):
        made = full([2, 2])
        made.die(9)
        self.assertEqual(filling(made), [(0, 8), (1, 10)])

    def test_kinds(self):
        told = filling(full([0, 2]))
        self.assertIs(type(told), list)
        self.assertEqual([type(pair) for pair in told], [tuple, tuple])

    def test_it_changes_nothing(self):
        made = full([0, 2, 0])
        ahead = told_by_house(made)
        self.assertEqual(filling(made), filling(made))
        self.assertEqual(told_by_house(made), ahead)


class FillTest(Case):
    def check(self, made):
        """Just the posts of the filling are given to just its men, and nothing else is done."""
        twin = made.twin()
        wanted = filling(made)
        told = fill(made)
        self.assertEqual(told, wanted)
        self.assertIs(type(told), list)
        for post, man in wanted:
            twin.appoint(post, man)
        self.assertEqual(told_by_house(made), told_by_house(twin))
        self.assertEqual(fill(made), [])
        self.assertEqual(told_by_house(made), told_by_house(twin))

    def test_to_fill(self):
        made = full([0, 2, 0, 1])
        self.assertEqual(fill(made), [(0, 3), (1, 9), (2, 2), (3, 7)])
        self.assertEqual([made.holder(post) for post in range(4)], [3, 9, 2, 7])
        self.assertEqual([made.post_of(man) for man in (3, 9, 2, 7, 0, 1)], [0, 1, 2, 3, None, None])

    def test_it_is_as_the_filling(self):
        for posts in ([], [0], [1, 1], [0, 2, 0, 1], [2] * 5, [0] * 20):
            self.check(full(posts))

    def test_holders_stay(self):
        made = full([0, 0])
        made.appoint(1, 6)
        self.assertEqual(fill(made), [(0, 3)])
        self.assertEqual([made.holder(0), made.holder(1)], [3, 6])

    def test_again_behind_a_feast(self):
        made = full([0, 2])
        fill(made)
        go_on(made, 2)
        self.assertEqual(fill(made), [(0, 11), (1, 8)])

    def test_grown_houses(self):
        for seed in range(20):
            self.check(grown(seed, [0, 1, 2, 2, 0], deeds=120))


class GrownTest(Case):
    """Houses behind long runs of deeds, against the words of the point."""

    def test_all_hangs_together(self):
        for seed in range(20):
            made = grown(seed, [0, 1, 2, 2, 0, 0], deeds=150, opens=0)
            ahead = told_by_house(made)
            living = [man for man in range(made.many()) if made.alive(man)]
            inside = [men_in(made, grade) for grade in range(3)]
            stages = [made.stage(man) for man in living]
            self.assertEqual(
                muster(made), (stages.count("waiting"), [len(men) for men in inside], stages.count("past"))
            )
            for grade, men in enumerate(inside):
                self.assertEqual(sorted(men), [man for man in living if made.grade_of(man) == grade])
                self.assertEqual([(made.born(man), man) for man in men], sorted((made.born(man), man) for man in men))
            taken = []
            for post, grade in enumerate(made.posts()):
                free = [man for man in inside[grade] if made.post_of(man) is None]
                self.assertEqual(free_men(made, post), free)
                left = [man for man in free if man not in [pair[1] for pair in taken]]
                if made.holder(post) is None and left:
                    taken.append((post, left[0]))
            self.assertEqual(filling(made), taken)
            self.assertEqual(told_by_house(made), ahead)


class KeptTest(Case):
    def test_told_lists_are_fresh(self):
        made = full([0, 2])
        ahead = told_by_house(made)
        for tell in (
            lambda: men_in(made, 0), lambda: free_men(made, 1), lambda: muster(made)[1], lambda: filling(made),
        ):
            told = tell()
            wanted = list(told)
            told.append(told[0])
            told[0] = 0
            self.assertEqual(tell(), wanted)
            self.assertEqual(told_by_house(made), ahead)

    def test_what_to_fill_told_is_fresh(self):
        made = full([0, 2])
        told = fill(made)
        ahead = told_by_house(made)
        told.clear()
        self.assertEqual(told_by_house(made), ahead)

    def test_told_lists_do_not_go_on(self):
        made = full([0])
        men, free, counts, pairs = men_in(made, 0), free_men(made, 0), muster(made)[1], filling(made)
        made.die(3)
        fill(made)
        self.assertEqual((men, free), ([3, 2, 1, 4, 5, 6], [3, 2, 1, 4, 5, 6]))
        self.assertEqual((counts, pairs), ([6, 1, 3], [(0, 3)]))

    def test_what_is_refused_changes_nothing(self):
        made = full([0, 2])
        ahead = told_by_house(made)
        self.refused(NoGrade, men_in, made, 3)
        self.refused(NoPost, free_men, made, 2)
        self.assertEqual(told_by_house(made), ahead)


if __name__ == "__main__":
    unittest.main()
