"""Point [15], with the conventions of [2] and the limits of [3] as far as they touch texts.py."""

import copy
import unittest

from aboutface.books import is_book, is_state
from aboutface.errors import BadText
from aboutface.texts import book_in, book_text, state_in, state_text, wish_in, wish_text
from tests.samples import ALONE, BIG_BOOKS, CHOSEN_BOOKS, DUO, FLAT, HIGH, LATE, ONE_RUNG, SMALL_BOOKS, TRIO, WIDE
from tests.samples import as_lists, mixed, states_of

MOST = 9999999999999
LONG = ((MOST,),)

# Nothing is a number here, so no text of a BOOK, a STATE or a WISH has such a word in it.
NO_NUMBERS = (
    "", "00", "01", "007", "+1", "-1", "-0", "+0", "1.", "1.0", "1e1", "0x1", "1_0", "1,", "a", "I", "one", "/", "//",
    "1/", "/1", "1/1", "1\t", "\t", "\t1", "1\n", "\n", "\n1", "1\r", "1\x0b", "1\x0c", "1\x1c", "1\u00a0", "\u2003",
    "\u0661", "\u0967", "\uff11", "\u00b2", "\u2460", "\u00bd", "1\u0661", "\u4e00", "\U0001d7ce", "1" * 14,
    "10000000000000", "0" * 13, "0" * 14, "0000000000001", "9" * 5000, "1;", "(1)", "[1]", "'1'", "~", "#1", "None",
    "True", "*", "!", "??", "?1", "1?", "1+1", "--", "++", "\x00", "1\x00",
)


class RaisingTest(unittest.TestCase):
    def check_bad(self, text, call, *values):
        with self.assertRaises(BadText, msg=repr(text)) as caught:
            call(*values, text)
        self.assertIs(type(caught.exception), BadText)
        self.assertEqual(vars(caught.exception), {"text": text})


class ExamplesTest(RaisingTest):
    def test_written(self):
        found = [book_text(TRIO), state_text(HIGH), wish_text((2, None))]
        self.assertEqual(found, ["3 / 2 1 2 / 1 2", "2+ 3-", "2 ?"])

    def test_read(self):
        found = [book_in("2 / 1 3"), state_in(DUO, "2+ 3-"), wish_in(DUO, "? 7")]
        self.assertEqual(found, [((2,), (1, 3)), ((2, 3), (1, -1)), (None, 7)])
        self.check_bad("1+ 2+", state_in, DUO)


class BooksTest(RaisingTest):
    def test_there_and_back(self):
        for book in SMALL_BOOKS + CHOSEN_BOOKS + list(BIG_BOOKS) + [FLAT, LATE]:
            self.assertEqual(book_in(book_text(book)), book)
        self.assertEqual(book_text(ALONE), "4")
        self.assertEqual(book_text(ONE_RUNG), "1 / 1 / 1")
        self.assertEqual(book_text(((2,), (12, 10))), "2 / 12 10")

    def test_more_climbers_and_longer_ladders(self):
        many = ((1,),) * 75
        long = ((2,), (1, 100)) + (tuple(range(1, 101)),)
        for book in (many, long, ((100,), (3,) * 100), LONG, ((1,), (MOST,)), ((2,), (MOST - 1, MOST))):
            self.assertEqual(book_in(book_text(book)), book)
            self.assertTrue(is_book(book))
        self.assertEqual(book_in("9999999999999"), LONG)

    def test_texts_of_no_book(self):
        for text in ("", " ", "0", "2 / 0 1", "0 / ", "1 1", "2 2", "2 / 1", "2 / 1 3 1", "2 / 1 3 / 1 1", "1 / 2 / 1",
                     "3 / 1 1 1 / 1 1", "2 / 1 3 / ", "2 / 1 3 /", "/ 2", " / 2", "/", " / ", "2 / / 1 3", "2 // 1 3",
                     "2 /  / 1 3", "2/ 1 3", "2 /1 3", "2/1 3", "2\n1 3", "2 / 1 3\n", "2 / 1\n3", "2 / 1\t3", "2\t/ 1 3",
                     "2 \\ 1 3", "2 | 1 3", "2 ? 1 3", "?", "2 / 1 ?", "2+", "2 / 1+ 3", "9999999999999 / 1",
                     "10000000000000", "1 / 10000000000000", "((2,), (1, 3))", "1 / / 1", "/ 1 / 1", "1 / 1 / / 1"):
            self.check_bad(text, book_in)

    def test_blanks(self):
        for text in (" 2 / 1 3", "2 / 1 3 ", "2  / 1 3", "2 /  1 3", "2 / 1  3", "  2 / 1 3", "2 / 1 3  ", "  2", "2 "):
            self.check_bad(text, book_in)

    def test_words_that_are_no_numbers(self):
        for word in NO_NUMBERS:
            self.check_bad(word, book_in)
            for text in (f"{word} / 1 3", f"2 / {word} 3", f"2 / 1 {word}", f"1 / {word}", f"1 / 1 / {word}"):
                self.check_bad(text, book_in)


class StatesTest(RaisingTest):
    def test_there_and_back(self):
        for book in CHOSEN_BOOKS:
            for state in states_of(book):
                self.assertEqual(state_in(book, state_text(state)), state)
        self.assertEqual(state_text(((4,), (-1,))), "4-")
        self.assertEqual(state_text(((12, 1, 10), (1, -1, -1))), "12+ 1- 10-")
        self.assertEqual(state_in(WIDE, " ".join(["12-", "1+"] * 10)), ((12, 1) * 10, (-1, 1) * 10))

    def test_every_text_of_a_small_book(self):
        for book in (ALONE, DUO, ((2,), (3, 1))):
            right = [state_text(state) for state in states_of(book)]
            words = [str(rung) + face for rung in range(6) for face in "+-"]
            texts = words + [f"{one} {other}" for one in words for other in words]
            self.assertEqual(sorted(right), sorted(text for text in texts if self.is_read(book, text)))

    def is_read(self, book, text):
        try:
            return is_state(book, state_in(book, text))
        except BadText as error:
            self.assertEqual(error.text, text)
            return False

    def test_more_climbers_and_longer_ladders(self):
        many = ((1,),) * 75
        self.assertEqual(state_in(many, " ".join(["1+"] * 75)), ((1,) * 75, (1,) * 75))
        self.check_bad(" ".join(["1+"] * 74), state_in, many)
        self.assertEqual(state_in(LONG, "9999999999999-"), ((MOST,), (-1,)))
        self.assertEqual(state_in(((2,), (1, MOST)), "2+ 1234567890123-"), ((2, 1234567890123), (1, -1)))
        self.check_bad("1+ 2-", state_in, ((2,), (1, MOST)))
        self.check_bad("10000000000000-", state_in, LONG)
        self.check_bad("0+", state_in, LONG)
        book = ((2,), (MOST - 1, MOST))
        self.assertEqual(state_in(book, "1- 9999999999998+"), ((1, MOST - 1), (-1, 1)))
        self.check_bad("1- 9999999999999+", state_in, book)

    def test_texts_of_no_state(self):
        for text in ("", " ", "+", "-", "2", "2 3", "2+", "2+ 3", "2 3-", "+2 -3", "2+3-", "2+ 3- 1+", "2+ 4-", "0+ 1+",
                     "3+ 1+", "1+ 3+", "2+ 0-", "2++ 3-", "2+- 3-", "2 + 3 -", "2+ / 3-", "2+ ?", "? ?", "02+ 3-",
                     "2+ 03-", "2+ -3-", "2+ 3-\n", "2+\t3-", "2+\n3-", "2+, 3-", "2* 3-", "2+ 3\u2212", "2\uff0b 3-",
                     "2+ \u0663-", "\u0662+ 3-", "2+ 00000000000003-"):
            self.check_bad(text, state_in, DUO)

    def test_blanks(self):
        for text in (" 2+ 3-", "2+ 3- ", "2+  3-", "  2+ 3-", "2+ 3-  ", "2 + 3-", "2+ 3 -"):
            self.check_bad(text, state_in, DUO)
        for text in (" 4+", "4+ ", "4 +", "4+  "):
            self.check_bad(text, state_in, ALONE)

    def test_words_that_are_no_numbers(self):
        for word in NO_NUMBERS:
            for text in (f"{word}+", f"{word}-", f"{word}"):
                self.check_bad(text, state_in, ALONE)
            for text in (f"{word}+ 1+", f"1+ {word}-", f"{word} 1+", f"1+ {word}"):
                self.check_bad(text, state_in, DUO)


class WishesTest(RaisingTest):
    def test_there_and_back(self):
        for wish in ((None, None), (0, None), (None, 0), (1, 3), (2, 12), (MOST, None), (None, MOST), (0, 0), (100, 7)):
            self.assertEqual(wish_in(DUO, wish_text(wish)), wish)
        for item in (None, 0, 1, 4, 5, 10, MOST):
            self.assertEqual(wish_in(ALONE, wish_text((item,))), (item,))
        wish = (None, 1, 0, 12, 13) * 4
        self.assertEqual(wish_in(WIDE, wish_text(wish)), wish)
        self.assertEqual([wish_text((0, None, 12)), wish_text((None,))], ["0 ? 12", "?"])

    def test_more_climbers_and_longer_ladders(self):
        many = ((1,),) * 75
        self.assertEqual(wish_in(many, " ".join(["?", "1", "0"] * 25)), (None, 1, 0) * 25)
        self.assertEqual(wish_in(LONG, "9999999999999"), (MOST,))
        self.assertEqual(wish_in(((2,), (1, MOST)), "? 1234567890123"), (None, 1234567890123))
        self.check_bad("10000000000000", wish_in, LONG)

    def test_texts_of_no_wish(self):
        for text in ("", " ", "?", "1", "? ? ?", "1 2 3", "??", "? ?\n", "?\t?", "?, ?", "? /", "? / ?", "* ?", "? -1",
                     "-1 ?", "+1 ?", "? 1+", "1+ 2-", "? 01", "00 ?", "? None", "? \u0663", "? \uff1f", "\u00bf ?"):
            self.check_bad(text, wish_in, DUO)

    def test_blanks(self):
        for text in (" ? 1", "? 1 ", "?  1", "  ? 1", "? 1  ", " ?", "? ", "1 ", " 1"):
            self.check_bad(text, wish_in, DUO)
            self.check_bad(text, wish_in, ALONE)

    def test_words_that_are_no_numbers(self):
        for word in NO_NUMBERS:
            self.check_bad(word, wish_in, ALONE)
            self.check_bad(f"{word} ?", wish_in, DUO)
            self.check_bad(f"1 {word}", wish_in, DUO)


class ConventionsTest(RaisingTest):
    def test_lists_in_place_of_tuples(self):
        for book in (as_lists(TRIO), mixed(TRIO), [(3,), [2, 1, 2], (1, 2)], ((3,), (2, 1, 2), [1, 2])):
            self.assertEqual(book_text(book), book_text(TRIO))
            self.assertEqual(state_in(book, "3+ 2- 1+"), ((3, 2, 1), (1, -1, 1)))
            self.assertEqual(wish_in(book, "? 2 0"), (None, 2, 0))
            self.check_bad("3+ 2- 3+", state_in, book)
            self.check_bad("? 2", wish_in, book)
        for state in ([[2, 3], [1, -1]], ([2, 3], (1, -1)), [(2, 3), [1, -1]]):
            self.assertEqual(state_text(state), "2+ 3-")
        self.assertEqual(wish_text([2, None]), "2 ?")

    def test_tuples_are_returned(self):
        book = book_in("2 / 1 3")
        self.assertEqual([type(row) for row in (book, *book)], [tuple] * 3)
        state = state_in([[2], [1, 3]], "2+ 3-")
        self.assertEqual([type(row) for row in (state, *state)], [tuple] * 3)
        self.assertIs(type(wish_in([[2], [1, 3]], "? 7")), tuple)

    def test_arguments_by_name(self):
        self.assertEqual([book_text(book=DUO), state_text(state=HIGH), wish_text(wish=(2, None))],
                         ["2 / 1 3", "2+ 3-", "2 ?"])
        self.assertEqual([book_in(text="2 / 1 3"), state_in(text="2+ 3-", book=DUO), wish_in(text="? 7", book=DUO)],
                         [DUO, HIGH, (None, 7)])

    def test_arguments_stay_as_they_are(self):
        book, state, wish = as_lists(DUO), as_lists(HIGH), [2, None]
        kept = copy.deepcopy((book, state, wish))
        book_text(book=book)
        state_text(state=state)
        wish_text(wish=wish)
        state_in(book=book, text="2+ 3-")
        wish_in(book=book, text="? 7")
        self.check_bad("1+ 2+", state_in, book)
        self.assertEqual((book, state, wish), kept)


if __name__ == "__main__":
    unittest.main()
