"""What point 1 says of a house: refusals, lists and twins leave all as it was."""

import random
import unittest

from agegrade.errors import (
    AgeError, BadPosts, BadYears, Dead, Filled, NoFeast, NoMan, NoPost, NoSet, NotFathering, NotWaiting, NoYear,
    Overdue, Posted, TooSoon, Vacant, WrongGrade,
)
from agegrade.house import House
from tests.helper import Case, any_deed, go_on, house, rule, told_by_house, told_by_rule, told_of_man

# In the busy house below these are the numbers of the men.
OLD, FATHER, YOUTH, LAD, SON, GONE_BOY, GONE_FATHER = range(7)
NOBODY = 7

REFUSED = (
    (BadYears, "wait", -1), (Overdue, "wait", 7), (TooSoon, "hold"),
    (NoSet, "admit", 6, 8), (NoSet, "admit", -5, 8), (NoYear, "admit", 1, 9), (NoYear, "admit", 1, -193),
    (NoMan, "bear", NOBODY), (Dead, "bear", GONE_FATHER), (NotFathering, "bear", YOUTH), (NotFathering, "bear", SON),
    (NoMan, "adopt", NOBODY, FATHER), (NoMan, "adopt", SON, -1), (Dead, "adopt", GONE_BOY, FATHER),
    (Dead, "adopt", SON, GONE_FATHER), (NotWaiting, "adopt", YOUTH, FATHER), (NotFathering, "adopt", SON, YOUTH),
    (NoMan, "die", NOBODY), (NoMan, "die", -1), (Dead, "die", GONE_BOY),
    (NoPost, "appoint", 4, YOUTH), (NoPost, "appoint", -1, YOUTH), (NoMan, "appoint", 1, NOBODY),
    (Dead, "appoint", 3, GONE_FATHER), (WrongGrade, "appoint", 3, LAD), (Posted, "appoint", 1, YOUTH),
    (Filled, "appoint", 0, LAD),
    (NoPost, "resign", 4), (NoPost, "resign", -1), (Vacant, "resign", 1),
    (NoFeast, "held", 2), (NoFeast, "held", -1), (NoFeast, "window", 1), (NoPost, "holder", 4), (NoPost, "holder", -1),
    (NoMan, "set_of", NOBODY), (NoMan, "born", NOBODY), (NoMan, "father_of", NOBODY), (NoMan, "alive", NOBODY),
    (NoMan, "stood", NOBODY), (NoMan, "stage", NOBODY), (NoMan, "grade_of", NOBODY), (NoMan, "name_of", NOBODY),
    (NoMan, "sons_of", NOBODY), (NoMan, "post_of", NOBODY),
)

DONE = (
    ("wait", 2), ("hold",), ("admit", 0, 5), ("bear", FATHER), ("adopt", SON, OLD), ("die", YOUTH), ("die", LAD),
    ("appoint", 1, LAD), ("resign", 0),
)


def busy():
    """A house in year 8, with feast 1 held in year 6, in which each of REFUSED is refused."""
    made = house([0, 0, 1, 2])
    made.admit(-4, -50)
    made.admit(-2, -30)
    made.admit(0, -9)
    made.admit(1, -8)
    made.bear(FATHER)
    made.bear(FATHER)
    made.admit(-3, -40)
    made.wait(6)
    made.hold()
    made.appoint(0, YOUTH)
    made.appoint(3, OLD)
    made.die(GONE_BOY)
    made.die(GONE_FATHER)
    made.wait(2)
    return made


def at_feast():
    """The busy house in year 11, in which each of DONE can be done."""
    made = busy()
    made.wait(3)
    return made


class RefusedTest(Case):
    def test_what_is_refused_changes_nothing(self):
        made = busy()
        self.assertEqual((made.many(), made.year()), (NOBODY, 8))
        ahead = told_by_house(made)
        for error, name, *things in REFUSED:
            with self.subTest(name=name, things=things):
                self.refused(error, getattr(made, name), *things)
                self.assertEqual(told_by_house(made), ahead)

    def test_what_is_refused_changes_nothing_that_comes(self):
        plain, tried = at_feast(), at_feast()
        for name, *things in (("bear", FATHER), ("appoint", 1, LAD), ("resign", 0), ("die", YOUTH), ("hold",)):
            self.refused(NoMan, tried.bear, 99)
            self.refused(NoYear, tried.admit, 1, 99)
            self.refused(NoMan, tried.adopt, SON, 99)
            self.refused(NoMan, tried.die, 99)
            self.refused(NoMan, tried.appoint, 1, 99)
            self.refused(NoPost, tried.resign, 99)
            self.refused(Overdue, tried.wait, 99)
            self.assertEqual(getattr(plain, name)(*things), getattr(tried, name)(*things))
            self.assertEqual(told_by_house(plain), told_by_house(tried))


class ListsTest(Case):
    def test_handed_posts_are_not_changed_and_not_kept(self):
        posts = [0, 1, 2]
        made = House(rule(), posts)
        ahead = told_by_house(made)
        self.assertEqual(posts, [0, 1, 2])
        posts[0] = 2
        posts.append(1)
        self.assertEqual(told_by_house(made), ahead)

    def test_refused_posts_are_not_changed(self):
        posts = [0, 9, 1]
        self.refused(BadPosts, House, rule(), posts)
        self.assertEqual(posts, [0, 9, 1])

    def test_deeds_leave_the_handed_posts(self):
        posts = [0, 0]
        made = House(rule(), posts)
        made.appoint(1, made.admit(-1, 0))
        go_on(made)
        self.assertEqual(posts, [0, 0])

    def test_told_lists_are_fresh(self):
        made = busy()
        ahead = told_by_house(made)
        for told in (made.posts(), made.sons_of(FATHER), made.sons_of(YOUTH), made.rule().stays()):
            self.assertIs(type(told), list)
            told.append(2)
            told[0] = 1
            self.assertEqual(told_by_house(made), ahead)

    def test_what_a_feast_told_is_fresh(self):
        made = house([0, 2])
        made.appoint(0, made.admit(-1, 0))
        told = go_on(made)
        ahead = told_by_house(made)
        told.clear()
        self.assertEqual(told_by_house(made), ahead)
        self.assertEqual(go_on(made), [])
        self.assertEqual(told, [])

    def test_told_lists_do_not_go_on(self):
        made = busy()
        sons, posts = made.sons_of(FATHER), made.posts()
        made.bear(FATHER)
        made.resign(0)
        self.assertEqual((sons, posts), ([SON, GONE_BOY], [0, 0, 1, 2]))

    def test_the_rule_is_not_changed(self):
        law = rule()
        ahead = told_by_rule(law)
        made = House(law, [0, 1])
        made.bear(made.admit(-2, 0))
        go_on(made, 4)
        self.assertEqual(told_by_rule(law), ahead)
        self.assertEqual(told_by_rule(made.rule()), ahead)

    def test_houses_of_one_rule_go_their_own_ways(self):
        law, posts = rule(), [0]
        one, other = House(law, posts), House(law, posts)
        ahead = told_by_house(other)
        one.appoint(0, one.admit(0, 0))
        go_on(one)
        self.assertEqual(told_by_house(other), ahead)

    def test_questions_change_nothing(self):
        made = busy()
        self.assertEqual(told_by_house(made), told_by_house(made))


class TwinTest(Case):
    def test_a_twin_stands_alike(self):
        for made in (house(), house([1]), busy()):
            twin = made.twin()
            self.assertIsInstance(twin, House)
            self.assertIsNot(twin, made)
            self.assertEqual(told_by_house(twin), told_by_house(made))

    def test_a_deed_of_one_leaves_the_other(self):
        for name, *things in DONE:
            with self.subTest(name=name, things=things):
                made = at_feast()
                twin = made.twin()
                ahead = told_by_house(made)
                getattr(twin, name)(*things)
                self.assertNotEqual(told_by_house(twin), ahead)
                self.assertEqual(told_by_house(made), ahead)
                twin = made.twin()
                getattr(made, name)(*things)
                self.assertNotEqual(told_by_house(made), ahead)
                self.assertEqual(told_by_house(twin), ahead)

    def test_twins_that_do_alike_stand_alike(self):
        made = at_feast()
        twin = made.twin()
        for name, *things in DONE[2:]:
            if name != "die":
                self.assertEqual(getattr(made, name)(*things), getattr(twin, name)(*things))
        self.assertEqual(go_on(made, 3), go_on(twin, 3))
        self.assertEqual(told_by_house(made), told_by_house(twin))

    def test_twins_that_go_on_by_turns(self):
        made = at_feast()
        twin = made.twin()
        self.assertEqual(twin.admit(0, -3), NOBODY)
        self.assertEqual(made.bear(FATHER), NOBODY)
        self.assertEqual(twin.bear(OLD), NOBODY + 1)
        self.assertEqual(made.admit(1, -7), NOBODY + 1)
        told = [[told_of_man(one, man)[:4] for man in (NOBODY, NOBODY + 1)] for one in (made, twin)]
        self.assertEqual(told[0], [(2, 11, FATHER, True), (1, -7, None, True)])
        self.assertEqual(told[1], [(0, -3, None, True), (0, 11, OLD, True)])
        made.die(NOBODY)
        made.wait(1)
        self.assertEqual((made.alive(NOBODY), twin.alive(NOBODY)), (False, True))
        self.assertEqual(twin.hold(), [(0, YOUTH), (3, OLD)])
        self.assertEqual(made.hold(), [(0, YOUTH), (3, OLD)])
        self.assertEqual((made.held(2), twin.held(2)), (12, 11))

    def test_a_twin_is_held_to_the_same(self):
        twin = busy().twin()
        for error, name, *things in REFUSED:
            self.refused(error, getattr(twin, name), *things)

    def test_a_twins_twin(self):
        made = busy()
        twin = made.twin()
        other = twin.twin()
        ahead = told_by_house(made)
        twin.admit(1, 0)
        other.die(YOUTH)
        self.assertEqual(told_by_house(made), ahead)
        self.assertEqual((twin.many(), other.many()), (8, 7))
        self.assertEqual((twin.alive(YOUTH), other.alive(YOUTH)), (True, False))


class WalkTest(Case):
    """Long runs of deeds, let and refused, through which all that is told hangs together."""

    def check(self, made):
        law = made.rule()
        for man in range(made.many()):
            father = made.father_of(man)
            if father is not None:
                self.assertEqual(made.set_of(man), made.set_of(father) + law.gap)
                self.assertIn(man, made.sons_of(father))
            for son in made.sons_of(man):
                self.assertEqual(made.father_of(son), man)
            self.assertEqual(made.stood(man), made.latest() - made.set_of(man))
            self.assertEqual(made.grade_of(man), law.grade_at(made.stood(man)))
            self.assertEqual(made.stage(man) == "standing", made.grade_of(man) is not None)
            self.assertEqual(made.stage(man) == "waiting", made.stood(man) < 0)
            self.assertEqual(made.name_of(man), made.set_of(man) % law.names)
            post = made.post_of(man)
            if post is not None:
                self.assertEqual(made.holder(post), man)
                self.assertTrue(made.alive(man))
        for post, grade in enumerate(made.posts()):
            man = made.holder(post)
            if man is not None:
                self.assertEqual(made.post_of(man), post)
                self.assertEqual(made.grade_of(man), grade)

    def test_walks(self):
        for seed in range(12):
            luck = random.Random(seed)
            made = house([0, 1, 2, 2], gap=luck.randint(1, 5), opens=luck.randint(0, 1), names=luck.randint(1, 9))
            for _ in range(150):
                name, *things = any_deed(luck, made)
                ahead = told_by_house(made)
                try:
                    getattr(made, name)(*things)
                except AgeError:
                    self.assertEqual(told_by_house(made), ahead)
                self.check(made)


if __name__ == "__main__":
    unittest.main()
