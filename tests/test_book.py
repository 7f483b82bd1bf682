"""Books: deeds, taking them back and doing them again: point 23."""

import random
import unittest

from agegrade.book import Book
from agegrade.errors import (
    AgeError, BadDeed, BadPosts, BadYears, Dead, Filled, NoMan, NoPost, NoSet, NotFathering, Nothing, NotWaiting,
    NoYear, Overdue, Posted, TooSoon, Vacant, WrongGrade,
)
from agegrade.house import House
from tests.helper import Case, any_book_deed, go_on, redone, rule, told_by_house, told_by_rule

POSTS = [0, 0, 1, 2]

# In this order each of them is done; behind each what it gives.
STORY = (
    (("admit", -4, -50), 0), (("admit", -2, -30), 1), (("admit", 0, -9), 2), (("admit", 1, -8), 3),
    (("bear", 1), 4), (("bear", 1), 5), (("wait", 0), None), (("wait", 6), None), (("adopt", 5, 0), None),
    (("hold",), []), (("appoint", 0, 2), None), (("appoint", 3, 0), None), (("fill",), [(1, 3)]),
    (("resign", 1), 3), (("fill",), [(1, 3)]), (("fill",), []), (("die", 4), None), (("die", 0), 3),
    (("wait", 7), None), (("hold",), [(0, 2)]), (("bear", 1), 6),
)

# Behind the story each of them is refused.
REFUSED = (
    (BadYears, ("wait", -1)), (Overdue, ("wait", 9)), (TooSoon, ("hold",)), (NoSet, ("admit", 7, 13)),
    (NoSet, ("admit", -4, 13)), (NoYear, ("admit", 1, 14)), (NoYear, ("admit", 1, -188)), (NoMan, ("bear", 7)),
    (NoMan, ("bear", -1)), (Dead, ("bear", 4)), (NotFathering, ("bear", 3)), (NoMan, ("adopt", 7, 1)),
    (NoMan, ("adopt", 6, 7)), (Dead, ("adopt", 4, 1)), (Dead, ("adopt", 6, 0)), (NotWaiting, ("adopt", 6, 1)),
    (NoMan, ("die", 7)), (Dead, ("die", 4)), (NoPost, ("appoint", 4, 2)), (NoMan, ("appoint", 0, 7)),
    (Dead, ("appoint", 3, 0)), (WrongGrade, ("appoint", 0, 2)), (Posted, ("appoint", 0, 3)),
    (Filled, ("appoint", 1, 6)), (NoPost, ("resign", 4)), (NoPost, ("resign", -1)), (Vacant, ("resign", 2)),
)

COUNTS = {"wait": 1, "hold": 0, "admit": 2, "bear": 1, "adopt": 2, "die": 1, "appoint": 2, "resign": 1, "fill": 0}

NO_DEEDS = (
    (), ("",), ("rest",), ("Wait", 1), ("wait ", 1), ("waits", 1), ("HOLD",), ("stays", 1), ("posts",), ("rule", 1),
    ("twin",), ("many",), ("back",), ("do",), ("born", 0), ("__init__",), ("hold feast",),
) + tuple(
    (word,) + (0,) * other for word, count in COUNTS.items() for other in range(5) if other != count
)


def told_by_book(book):
    return (book.deeds(), book.text(), told_by_house(book.house()))


def book(posts=POSTS, **changes):
    return Book(rule(**changes), list(posts))


def storied():
    made = book()
    for deed, _given in STORY:
        made.do(deed)
    return made


class DoTest(Case):
    def test_a_new_book(self):
        made = book()
        self.assertEqual(made.deeds(), [])
        self.assertEqual(told_by_house(made.house()), told_by_house(House(rule(), POSTS)))
        self.assertEqual(made.house().posts(), POSTS)

    def test_a_deed_gives_what_the_house_gives(self):
        made, plain = book(), House(rule(), POSTS)
        for deed, given in STORY:
            with self.subTest(deed=deed):
                told = made.do(deed)
                self.assertEqual(told, given)
                self.assertIs(type(told), type(given))
                self.assertEqual(redone(plain, deed), given)
                self.assertEqual(told_by_house(made.house()), told_by_house(plain))
        self.assertEqual(made.deeds(), [deed for deed, _given in STORY])

    def test_pairs_are_tuples(self):
        made = book()
        for deed, given in STORY:
            told = made.do(deed)
            if isinstance(given, list):
                self.assertTrue(all(type(pair) is tuple for pair in told))

    def test_what_the_house_refuses(self):
        made = storied()
        ahead = told_by_book(made)
        for error, deed in REFUSED:
            with self.subTest(deed=deed):
                self.refused(error, made.do, deed)
                self.assertEqual(told_by_book(made), ahead)
        made = book([], opens=0, gap=6)
        made.do(("admit", 1, 0))
        made.do(("admit", 0, 0))
        self.refused(NotFathering, made.do, ("adopt", 0, 0))
        self.assertEqual(made.house().father_of(0), None)

    def test_no_deeds(self):
        for made in (book(), storied()):
            ahead = told_by_book(made)
            for deed in NO_DEEDS:
                with self.subTest(deed=deed):
                    self.refused(BadDeed, made.do, deed)
                    self.assertEqual(told_by_book(made), ahead)

    def test_a_bad_deed_goes_ahead_of_what_the_house_refuses(self):
        made = storied()
        for deed in (("wait", -1, 1), ("hold", 1), ("bear", 99, 1), ("die",), ("resign", 99, 99), ("appoint", 99)):
            self.refused(BadDeed, made.do, deed)

    def test_bad_posts(self):
        for posts in ([3], [-1], [0, 1, 2, 3], [0] * 21):
            handed = list(posts)
            self.refused(BadPosts, Book, rule(), handed)
            self.assertEqual(handed, posts)
        self.assertEqual(Book(rule(), [2] * 20).house().posts(), [2] * 20)
        self.assertEqual(Book(rule(), []).house().posts(), [])


class BackTest(Case):
    def test_nothing_is_done(self):
        made = book()
        ahead = told_by_book(made)
        self.refused(Nothing, made.back)
        self.refused(Nothing, made.again)
        self.assertEqual(told_by_book(made), ahead)

    def test_behind_each_deed(self):
        made = book()
        for deed, _given in STORY:
            with self.subTest(deed=deed):
                ahead = told_by_book(made)
                made.do(deed)
                behind = told_by_book(made)
                told = made.back()
                self.assertEqual(told, deed)
                self.assertIs(type(told), tuple)
                self.assertEqual(told_by_book(made), ahead)
                told = made.again()
                self.assertEqual(told, deed)
                self.assertIs(type(told), tuple)
                self.assertEqual(told_by_book(made), behind)

    def test_all_back_and_all_again(self):
        made = book()
        seen = [told_by_book(made)]
        for deed, _given in STORY:
            made.do(deed)
            seen.append(told_by_book(made))
        for _ in range(2):
            for at in range(len(STORY) - 1, -1, -1):
                self.assertEqual(made.back(), STORY[at][0])
                self.assertEqual(told_by_book(made), seen[at])
            self.refused(Nothing, made.back)
            self.assertEqual(told_by_book(made), seen[0])
            for at in range(len(STORY)):
                self.assertEqual(made.again(), STORY[at][0])
                self.assertEqual(told_by_book(made), seen[at + 1])
            self.refused(Nothing, made.again)
            self.assertEqual(told_by_book(made), seen[-1])

    def test_the_last_taken_back_comes_again_first(self):
        made = book()
        for age in (1, 2, 3):
            made.do(("admit", 0, -age))
        self.assertEqual([made.back(), made.back()], [("admit", 0, -3), ("admit", 0, -2)])
        self.assertEqual(made.again(), ("admit", 0, -2))
        self.assertEqual(made.back(), ("admit", 0, -2))
        self.assertEqual([made.again(), made.again()], [("admit", 0, -2), ("admit", 0, -3)])

    def test_a_deed_done_otherwise_lets_all_go(self):
        for deed in (("wait", 1), ("admit", 0, -3), ("admit", 0, -2)):
            made = book()
            for age in (1, 2, 3):
                made.do(("admit", 0, -age))
            made.back()
            made.back()
            made.do(deed)
            self.refused(Nothing, made.again)
            self.assertEqual(made.deeds(), [("admit", 0, -1), deed])
            self.assertEqual(made.back(), deed)
            self.assertEqual(made.again(), deed)
            self.refused(Nothing, made.again)

    def test_a_refused_one_lets_go_nothing(self):
        made = storied()
        behind = told_by_book(made)
        for _ in range(4):
            made.back()
        ahead = told_by_book(made)
        for deed in ((), ("rest",), ("wait",), ("wait", -1), ("wait", 99), ("bear", 99), ("resign", 9), ("hold", 1)):
            with self.assertRaises(AgeError):
                made.do(deed)
            self.assertEqual(told_by_book(made), ahead)
        self.assertEqual([made.again() for _ in range(4)], [deed for deed, _given in STORY[-4:]])
        self.assertEqual(told_by_book(made), behind)
        self.refused(Nothing, made.again)

    def test_to_take_back_too_often_lets_go_nothing(self):
        made = book()
        made.do(("wait", 3))
        made.back()
        self.refused(Nothing, made.back)
        self.assertEqual(made.again(), ("wait", 3))
        self.refused(Nothing, made.again)
        self.assertEqual(made.back(), ("wait", 3))

    def test_what_can_be_done_behind_it(self):
        made = book()
        made.do(("wait", 8))
        self.refused(Overdue, made.do, ("wait", 1))
        made.back()
        self.assertIsNone(made.do(("wait", 1)))
        self.refused(TooSoon, made.do, ("hold",))
        self.assertEqual(made.do(("admit", 0, 0)), 0)
        made.back()
        self.refused(NoMan, made.do, ("die", 0))
        self.assertEqual(made.do(("admit", 0, 1)), 0)
        self.assertIsNone(made.do(("die", 0)))
        self.refused(Dead, made.do, ("die", 0))
        made.back()
        self.assertIsNone(made.do(("appoint", 0, 0)))


class RunTest(Case):
    """Long runs of deeds, of taking back and of doing again, against a house that is made anew."""

    def check(self, made, done):
        plain = House(rule(), POSTS)
        for deed in done:
            redone(plain, deed)
        self.assertEqual(made.deeds(), done)
        self.assertEqual(told_by_house(made.house()), told_by_house(plain))

    def turn(self, luck, made, done, undone):
        """One deed, taking back or doing again, and what the lists of it become."""
        choice = luck.random()
        if choice < 0.25:
            if not done:
                self.refused(Nothing, made.back)
                return
            undone.append(done.pop())
            self.assertEqual(made.back(), undone[-1])
        elif choice < 0.45:
            if not undone:
                self.refused(Nothing, made.again)
                return
            done.append(undone.pop())
            self.assertEqual(made.again(), done[-1])
        else:
            deed, plain = any_book_deed(luck, made.house()), made.house()
            try:
                given = redone(plain, deed)
            except AgeError as error:
                self.refused(type(error), made.do, deed)
                return
            self.assertEqual(made.do(deed), given)
            done.append(deed)
            undone.clear()

    def test_long_runs(self):
        words = set()
        for seed in range(12):
            luck = random.Random(seed)
            made, done, undone = book(), [], []
            for at in range(250):
                self.turn(luck, made, done, undone)
                if at % 7 == 0:
                    self.check(made, done)
            self.check(made, done)
            words |= {deed[0] for deed in done}
        self.assertEqual(words, set(COUNTS))

    def test_a_long_book(self):
        made = book([0, 1, 2] * 6, opens=0)
        for _ in range(500):
            made.do(("admit", 0, 0))
        for _ in range(300):
            made.do(("wait", 5))
            made.do(("fill",) if made.house().latest() < 6 else ("wait", 0))
            made.do(("hold",))
        behind = told_by_house(made.house())
        many = len(made.deeds())
        for _ in range(many):
            made.back()
        self.refused(Nothing, made.back)
        self.assertEqual(told_by_house(made.house()), told_by_house(House(rule(opens=0), [0, 1, 2] * 6)))
        for _ in range(many):
            made.again()
        self.assertEqual(told_by_house(made.house()), behind)


class KeptTest(Case):
    def test_its_house_and_the_told_one_go_each_their_own_way(self):
        for made in (book(), storied()):
            ahead = told_by_book(made)
            told = made.house()
            told.admit(told.latest(), told.year())
            go_on(told)
            self.assertEqual(told_by_book(made), ahead)
            told = made.house()
            kept = told_by_house(told)
            made.do(("admit", told.latest(), 0))
            made.do(("wait", 1))
            self.assertEqual(told_by_house(told), kept)
            made.back()
            made.back()
            self.assertEqual(told_by_house(told), kept)
            self.assertEqual(told_by_book(made), ahead)

    def test_a_told_house_and_what_is_taken_back(self):
        made = storied()
        behind = told_by_book(made)
        made.back()
        told = made.house()
        told.die(1)
        made.again()
        made.house().die(1)
        self.assertEqual(told_by_book(made), behind)
        made.back()
        made.again()
        self.assertEqual(told_by_book(made), behind)

    def test_told_houses_go_each_their_own_way(self):
        made = storied()
        one, other = made.house(), made.house()
        ahead = told_by_house(other)
        one.die(1)
        self.assertEqual(told_by_house(other), ahead)

    def test_told_lists_are_fresh(self):
        made = storied()
        ahead = told_by_book(made)
        told = made.deeds()
        self.assertIs(type(told), list)
        self.assertTrue(all(type(deed) is tuple for deed in told))
        told.pop()
        told[0] = ("hold",)
        self.assertEqual(told_by_book(made), ahead)
        made.back()
        made.again()
        self.assertEqual(told_by_book(made), ahead)

    def test_what_deeds_gave_is_fresh(self):
        made = book()
        for deed, given in STORY:
            told = made.do(deed)
            if isinstance(told, list):
                ahead = told_by_book(made)
                told.append((0, 0))
                told[0] = (1, 1)
                self.assertEqual(told_by_book(made), ahead)

    def test_told_lists_do_not_go_on(self):
        made = book()
        made.do(("wait", 1))
        told = made.deeds()
        made.do(("wait", 2))
        self.assertEqual(told, [("wait", 1)])
        made.back()
        made.back()
        self.assertEqual(told, [("wait", 1)])

    def test_handed_posts_are_not_changed_and_not_kept(self):
        posts, law = list(POSTS), rule()
        ahead_of_rule = told_by_rule(law)
        made = Book(law, posts)
        ahead = told_by_book(made)
        made.do(("admit", 0, 0))
        made.do(("fill",))
        self.assertEqual(posts, POSTS)
        posts[0] = 2
        posts.append(1)
        made.back()
        made.back()
        self.assertEqual(told_by_book(made), ahead)
        self.assertEqual(told_by_rule(law), ahead_of_rule)

    def test_two_books_of_one_rule(self):
        law = rule()
        one, other = Book(law, [0]), Book(law, [0])
        ahead = told_by_book(other)
        one.do(("admit", 0, 0))
        one.do(("fill",))
        one.back()
        self.assertEqual(told_by_book(other), ahead)
        self.refused(Nothing, other.again)
        self.refused(Nothing, other.back)


if __name__ == "__main__":
    unittest.main()
