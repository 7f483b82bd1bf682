"""The texts of books, and the texts that are read: points 24 and 25."""

import random
import re
import unittest

from agegrade.book import Book, read_book
from agegrade.errors import AgeError, BadText, Nothing
from agegrade.house import House
from agegrade.rules import Rule
from tests.helper import Case, any_book_deed, redone, rule, told_by_house

HEAD = "stays 2 1 3\nrule 4 1 2 5 8 7\nposts 0 0 1 2"
BARE = "stays 2 1 3\nrule 4 1 2 5 8 7\nposts"

# Each row can stand behind those ahead of it.
STORY = (
    "admit -4 -50", "admit -2 -30", "admit 0 -9", "admit 1 -8", "bear 1", "bear 1", "wait 0", "wait 6", "adopt 5 0",
    "hold", "appoint 0 2", "appoint 3 0", "fill", "resign 1", "fill", "fill", "die 4", "die 0", "wait 7", "hold",
    "bear 1",
)
WHOLE = "\n".join((HEAD,) + STORY)

FORMS = {"wait": 1, "hold": 0, "admit": 2, "bear": 1, "adopt": 2, "die": 1, "appoint": 2, "resign": 1, "fill": 0}
ROW = re.compile(r"([^ \n]*)((?: (?:0|-?[1-9][0-9]*))*)\Z")


def deed_of(row):
    word, *things = row.split(" ")
    return (word,) + tuple(int(thing) for thing in things)


def things_of(row):
    """The word and the numbers of a row, or None where it is none."""
    found = ROW.match(row)
    return found and (found[1], [int(thing) for thing in found[2].split()])


def is_let(deed, *things):
    try:
        deed(*things)
    except AgeError:
        return False
    return True


def is_good_row(rows, at, a_house):
    """Whether a row is right behind those ahead of it; it is done in the house, where there is one."""
    things = things_of(rows[at])
    if things is None:
        return False
    word, numbers = things
    if at == 0:
        return word == "stays" and is_let(Rule, numbers, 1, 0, 0, 1, 1, 1)
    stays = things_of(rows[0])[1]
    if at == 1:
        return word == "rule" and len(numbers) == 6 and is_let(Rule, stays, *numbers)
    if at == 2:
        return word == "posts" and is_let(House, Rule(stays, *things_of(rows[1])[1]), numbers)
    return FORMS.get(word) == len(numbers) and is_let(redone, a_house, (word, *numbers))


def first_wrong_row(text):
    """The first row that is wrong, or None; reckoned apart from the program's own reading."""
    rows, a_house = text.split("\n"), None
    for at in range(max(len(rows), 3)):
        if at == 3:
            stays, numbers, posts = [things_of(row)[1] for row in rows[:3]]
            a_house = House(Rule(stays, *numbers), posts)
        if at >= len(rows) or not is_good_row(rows, at, a_house):
            return at
    return None


class TextCase(Case):
    def wrong(self, text, row):
        """The text is refused at this row."""
        with self.assertRaises(BadText) as caught:
            read_book(text)
        self.assertIs(type(caught.exception), BadText)
        self.assertIs(type(caught.exception.row), int)
        self.assertEqual(caught.exception.row, row, text)

    def read(self, text):
        """The text is read to a book of that text, of which nothing was taken back."""
        book = read_book(text)
        self.assertIs(type(book), Book)
        self.assertEqual(book.text(), text)
        self.refused(Nothing, book.again)
        return book


class WrittenTest(TextCase):
    def test_no_post_and_no_deed(self):
        text = Book(rule(), []).text()
        self.assertEqual(text, BARE)
        self.assertIs(type(text), str)

    def test_posts(self):
        self.assertEqual(Book(rule(), [0, 0, 1, 2]).text(), HEAD)
        self.assertEqual(Book(rule(), [2] * 20).text(), BARE + " 2" * 20)

    def test_each_number_of_the_rule_in_its_place(self):
        law = Rule([6, 1, 2, 3, 4, 5, 1, 1], 60, 2, 7, 11, 40, 59)
        self.assertEqual(Book(law, [7]).text(), "stays 6 1 2 3 4 5 1 1\nrule 60 2 7 11 40 59\nposts 7")
        law = Rule([1], 1, 0, 0, 1, 1, 1)
        self.assertEqual(Book(law, []).text(), "stays 1\nrule 1 0 0 1 1 1\nposts")

    def test_deeds(self):
        book = Book(rule(), [0, 0, 1, 2])
        text = HEAD
        for row in STORY:
            book.do(deed_of(row))
            text += "\n" + row
            self.assertEqual(book.text(), text)

    def test_each_kind_of_deed_is_there(self):
        self.assertEqual({row.split(" ")[0] for row in STORY}, set(FORMS))

    def test_taken_back_and_done_again(self):
        book = self.read(WHOLE)
        for at in range(len(STORY) - 1, -1, -1):
            book.back()
            self.assertEqual(book.text(), "\n".join((HEAD,) + STORY[:at]))
        for at in range(len(STORY)):
            book.again()
            self.assertEqual(book.text(), "\n".join((HEAD,) + STORY[:at + 1]))

    def test_a_refused_deed_leaves_no_row(self):
        book = Book(rule(), [])
        for deed in (("bear", 0), ("hold",), ("wait", -1), ("rest",), ()):
            self.assertFalse(is_let(book.do, deed))
        self.assertEqual(book.text(), BARE)

    def test_a_deed_done_otherwise(self):
        book = self.read(BARE + "\nwait 3\nadmit 0 -5\ndie 0")
        book.back()
        book.back()
        book.do(("admit", 0, 3))
        self.assertEqual(book.text(), BARE + "\nwait 3\nadmit 0 3")

    def test_numbers(self):
        book = Book(rule(), [])
        for deed, row in (
            (("admit", -5, -200), "admit -5 -200"), (("admit", 0, 0), "admit 0 0"), (("admit", 4, -10), "admit 4 -10"),
            (("wait", 0), "wait 0"), (("bear", 0), "bear 0"),
        ):
            book.do(deed)
            self.assertEqual(book.text().split("\n")[-1], row)


class ReadTest(TextCase):
    def test_no_deed(self):
        for text, posts in ((BARE, []), (HEAD, [0, 0, 1, 2])):
            book = self.read(text)
            self.assertEqual(book.deeds(), [])
            self.assertEqual(told_by_house(book.house()), told_by_house(House(rule(), posts)))
            self.refused(Nothing, book.back)

    def test_each_text_of_the_story(self):
        for many in range(len(STORY) + 1):
            text = "\n".join((HEAD,) + STORY[:many])
            self.assertIsNone(first_wrong_row(text))
            book = self.read(text)
            self.assertEqual(book.deeds(), [deed_of(row) for row in STORY[:many]])
            plain = House(rule(), [0, 0, 1, 2])
            for row in STORY[:many]:
                redone(plain, deed_of(row))
            self.assertEqual(told_by_house(book.house()), told_by_house(plain))

    def test_its_deeds_are_taken_back(self):
        book = self.read(WHOLE)
        for row in reversed(STORY):
            self.assertEqual(book.back(), deed_of(row))
        self.refused(Nothing, book.back)
        self.assertEqual(book.text(), HEAD)
        for row in STORY:
            self.assertEqual(book.again(), deed_of(row))
        self.assertEqual(book.text(), WHOLE)

    def test_it_goes_on(self):
        book = self.read(WHOLE)
        self.assertEqual(book.do(("bear", 1)), 7)
        self.assertEqual(book.text(), WHOLE + "\nbear 1")

    def test_two_readings_go_each_their_own_way(self):
        one, other = read_book(WHOLE), read_book(WHOLE)
        one.back()
        one.do(("wait", 1))
        self.assertEqual(other.text(), WHOLE)

    def test_the_text_of_any_book(self):
        for seed in range(30):
            luck = random.Random(seed)
            book = Book(rule(opens=0, names=luck.randint(1, 60)), [luck.randint(0, 2) for _ in range(seed % 21)])
            for _ in range(80):
                is_let(book.do, any_book_deed(luck, book.house()))
                if luck.random() < 0.1 and book.deeds():
                    book.back()
            again = self.read(book.text())
            self.assertEqual(again.deeds(), book.deeds())
            self.assertEqual(told_by_house(again.house()), told_by_house(book.house()))

    def test_the_edges_of_the_rule(self):
        for text in (
            "stays 1\nrule 1 0 0 1 1 1\nposts", "stays 6 6 6 6 6 6 6 6\nrule 60 7 7 40 40 60\nposts" + " 7" * 20,
            "stays 1 6\nrule 1 0 1 1 40 1\nposts 0 1",
        ):
            self.read(text)

    def test_a_long_text(self):
        text = BARE + "\nadmit 0 -200" * 500 + "\nwait 8\nhold\nwait 7\nhold" * 500
        self.read(text)
        self.wrong(text + "\nhold", 3 + 500 + 2000)


class LackingTest(TextCase):
    def test_the_empty_text(self):
        self.wrong("", 0)

    def test_rows_that_are_lacking(self):
        self.wrong("stays 2 1 3", 1)
        self.wrong("stays 2 1 3\nrule 4 1 2 5 8 7", 2)

    def test_empty_rows_in_their_stead(self):
        self.wrong("\n", 0)
        self.wrong("\n\n", 0)
        self.wrong("\n" + BARE, 0)
        self.wrong("stays 2 1 3\n", 1)
        self.wrong("stays 2 1 3\n\nrule 4 1 2 5 8 7\nposts", 1)
        self.wrong("stays 2 1 3\nrule 4 1 2 5 8 7\n", 2)
        self.wrong("stays 2 1 3\nrule 4 1 2 5 8 7\n\nposts", 2)

    def test_a_wrong_row_goes_ahead_of_one_that_is_lacking(self):
        self.wrong("stays", 0)
        self.wrong("stays 0", 0)
        self.wrong("rule 4 1 2 5 8 7", 0)
        self.wrong("stays 2 1 3\nrule", 1)
        self.wrong("stays 2 1 3\nrule 0 1 2 5 8 7", 1)
        self.wrong("stays 2 1 3\nposts", 1)

    def test_rows_in_another_order(self):
        self.wrong("rule 4 1 2 5 8 7\nstays 2 1 3\nposts", 0)
        self.wrong("stays 2 1 3\nposts\nrule 4 1 2 5 8 7", 1)
        self.wrong("posts\nstays 2 1 3\nrule 4 1 2 5 8 7", 0)


class HeadTest(TextCase):
    def rows(self, stays="stays 2 1 3", numbers="rule 4 1 2 5 8 7", posts="posts", deeds=""):
        return "\n".join((stays, numbers, posts)) + deeds

    def test_bad_stays(self):
        for stays in ("stays", "stays 0", "stays 7", "stays -1", "stays 2 1 0", "stays 2 7 3", "stays 1 1 1 1 1 1 1 1 1",
                      "stays 2 1 99999999999999999999"):
            self.wrong(self.rows(stays=stays), 0)
            self.wrong(self.rows(stays=stays, numbers="rule 0"), 0)

    def test_bad_numbers_of_the_rule(self):
        for numbers in (
            "0 1 2 5 8 7", "61 1 2 5 8 7", "-4 1 2 5 8 7", "4 2 1 5 8 7", "4 -1 2 5 8 7", "4 1 3 5 8 7", "4 3 3 5 8 7",
            "4 1 2 9 8 7", "4 1 2 0 8 7", "4 1 2 5 41 7", "4 1 2 41 41 7", "4 1 2 5 8 0", "4 1 2 5 8 61",
        ):
            self.wrong(self.rows(numbers="rule " + numbers), 1)
            self.wrong(self.rows(numbers="rule " + numbers, posts="post"), 1)

    def test_grades_that_the_stays_have_not(self):
        self.wrong(self.rows(stays="stays 2 1"), 1)
        self.wrong(self.rows(stays="stays 2"), 1)
        self.read(self.rows(stays="stays 2 1 3 1"))

    def test_a_count_of_numbers(self):
        for numbers in ("rule", "rule 4", "rule 4 1 2 5 8", "rule 4 1 2 5 8 7 7", "rule 4 1 2 5 8 7 0 0"):
            self.wrong(self.rows(numbers=numbers), 1)

    def test_bad_posts(self):
        for posts in ("posts 3", "posts -1", "posts 0 1 2 3", "posts" + " 0" * 21):
            self.wrong(self.rows(posts=posts), 2)
            self.wrong(self.rows(posts=posts, deeds="\nrest"), 2)
        self.read(self.rows(posts="posts" + " 0" * 20))

    def test_another_first_word(self):
        for stays in ("stay 2 1 3", "Stays 2 1 3", "2 1 3", "stays2 1 3", "", "rule 2 1 3", "stayss 2 1 3", "sta ys 2"):
            self.wrong(self.rows(stays=stays), 0)
        for numbers in ("rules 4 1 2 5 8 7", "4 1 2 5 8 7", "Rule 4 1 2 5 8 7", "", "stays 4 1 2 5 8 7"):
            self.wrong(self.rows(numbers=numbers), 1)
        for posts in ("post", "Posts 0", "0 1", "", "hold", "posts0"):
            self.wrong(self.rows(posts=posts), 2)


class FormTest(TextCase):
    def places(self):
        """Each row of a text, with its number and the text made anew with another row in its place."""
        rows = WHOLE.split("\n")
        for at, row in enumerate(rows):
            yield at, row, lambda other, at=at: "\n".join(rows[:at] + [other] + rows[at + 1:])

    def test_blanks(self):
        for at, row, anew in self.places():
            self.wrong(anew(" " + row), at)
            self.wrong(anew(row + " "), at)
            self.wrong(anew(row.replace(" ", "  ", 1) if " " in row else row + "  "), at)
            self.wrong(anew(row[::-1].replace(" ", "  ", 1)[::-1] if " " in row else "  " + row), at)
            self.wrong(anew(" "), at)

    def test_numbers(self):
        for at, row, anew in self.places():
            for part in range(1, len(row.split(" "))):
                words = row.split(" ")
                number = words[part]
                for other in ("0" + number, "00" + number, "+" + number, "-0", "--1", "-", "", "x", "1x", "1.0", "0x1",
                              "1_0", "1,", "-01", "- 1", "1e1", "None", "()", "'1'", number + "+", "~", "\t1", "-+1"):
                    words[part] = other
                    self.wrong(anew(" ".join(words)), at)

    def test_the_very_nought(self):
        self.wrong(BARE + "\nwait 00", 3)
        self.wrong(BARE + "\nwait -0", 3)
        self.wrong(BARE + "\nwait +0", 3)
        self.read(BARE + "\nwait 0")
        self.wrong(BARE + "\nwait +1", 3)
        self.wrong(BARE + "\nwait 01", 3)
        self.read(BARE + "\nwait 1")
        self.wrong(BARE + "\nadmit -0 0", 3)
        self.wrong(BARE + "\nadmit 0 -01", 3)
        self.read(BARE + "\nadmit 0 -1")

    def test_empty_rows(self):
        rows = WHOLE.split("\n")
        for at in range(len(rows) + 1):
            self.wrong("\n".join(rows[:at] + [""] + rows[at:]), at)

    def test_a_line_feed_at_the_end(self):
        for text in (BARE, HEAD, WHOLE, BARE + "\nwait 1"):
            self.wrong(text + "\n", text.count("\n") + 1)
            self.wrong(text + "\n\n", text.count("\n") + 1)

    def test_other_rows_ends(self):
        self.wrong(WHOLE.replace("\n", "\r\n"), 0)
        self.wrong(WHOLE.replace("\n", "\r"), 0)
        self.wrong(WHOLE + "\r", WHOLE.count("\n"))

    def test_another_first_word(self):
        for row in ("rest", "Hold", "HOLD", "holds", "waits 1", "twin", "back", "again", "stays 1", "rule 1", "posts",
                    "0", "-1", "hold()", "wait-1", "wait1", "~", "many", "year", "do 1"):
            self.wrong(BARE + "\n" + row, 3)
            self.wrong(WHOLE + "\n" + row, WHOLE.count("\n") + 1)

    def test_counts_of_numbers(self):
        for word, count in FORMS.items():
            for other in range(5):
                if other != count:
                    self.wrong(BARE + "\nadmit 0 0\n" + word + " 0" * other, 4)

    def test_long_rows(self):
        self.wrong(BARE + "\nwait " + "9" * 195, 3)
        self.wrong(BARE + "\nadmit 0 -" + "9" * 191, 3)
        self.wrong(BARE + "\n" + "x" * 200, 3)
        self.wrong("stays" + " 1" * 97, 0)


class RefusedTest(TextCase):
    def test_a_deed_that_the_house_refuses(self):
        for row in (
            "wait -1", "wait 9", "hold", "admit 7 13", "admit 1 14", "bear 7", "bear -1", "bear 4", "bear 3",
            "adopt 7 1", "adopt 4 1", "adopt 6 1", "die 7", "die 4", "appoint 4 2", "appoint 0 7", "appoint 0 2",
            "appoint 0 3", "appoint 1 6", "resign 4", "resign 2",
        ):
            self.wrong(WHOLE + "\n" + row, WHOLE.count("\n") + 1)
            self.wrong(WHOLE + "\n" + row + "\nrest", WHOLE.count("\n") + 1)

    def test_it_hangs_on_the_rows_ahead(self):
        self.wrong(BARE + "\nhold", 3)
        self.wrong(BARE + "\nwait 4\nhold", 4)
        self.read(BARE + "\nwait 5\nhold")
        self.wrong(BARE + "\nwait 5\nhold\nhold", 5)
        self.wrong(BARE + "\ndie 0\nadmit 0 0", 3)
        self.read(BARE + "\nadmit 0 0\ndie 0")
        self.wrong(BARE + "\nadmit 0 0\ndie 0\ndie 0", 5)
        self.wrong(BARE + "\nadmit 0 0\nappoint 0 0", 4)
        self.read(HEAD + "\nadmit 0 0\nappoint 0 0")

    def test_each_row_of_the_story_is_wanted(self):
        """Where a row is left out, the first row that is no longer let is told."""
        for at in range(len(STORY)):
            text = "\n".join((HEAD,) + STORY[:at] + STORY[at + 1:])
            wrong = first_wrong_row(text)
            if wrong is None:
                self.read(text)
            else:
                self.wrong(text, wrong)


class SpoiltTest(TextCase):
    """Texts of books that are spoilt somewhere, against a reading of their own."""

    def spoilt(self, luck, text):
        at = luck.randrange(len(text))
        sign = luck.choice(" \n\n0012-5+hwx~")
        rows = text.split("\n")
        other = luck.randrange(len(rows))
        return luck.choice((
            text[:at] + text[at + 1:], text[:at] + sign + text[at:], text[:at] + sign + text[at + 1:], text[:at],
            "\n".join(rows[:other] + rows[other + 1:]), "\n".join(rows[:other] + [luck.choice(rows)] + rows[other:]),
            "\n".join(rows[:other]), text[:at] + str(luck.randint(-3, 9)) + text[at + 1:],
        ))

    def test_spoilt_texts(self):
        luck = random.Random(25)
        read, rows = 0, set()
        for _ in range(3000):
            text = "\n".join((HEAD,) + STORY[:luck.randint(0, len(STORY))])
            for _ in range(luck.choice((1, 1, 2))):
                text = self.spoilt(luck, text) if text else text
            wrong = first_wrong_row(text)
            if wrong is None:
                self.read(text)
                read += 1
            else:
                self.wrong(text, wrong)
                rows.add(wrong)
        self.assertGreater(read, 200)
        self.assertGreater(len(rows), 15)


if __name__ == "__main__":
    unittest.main()
