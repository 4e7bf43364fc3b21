"""Point [4], with the conventions of [2] as far as they touch books.py."""

import copy
import itertools
import unittest

from aboutface.books import is_book, is_standing, is_state, lengths
from tests.samples import DUO, HIGH, LOW, ODD_VALUES, ONE_RUNG, TRIO, WIDE
from tests.samples import as_lists, books_up_to, mixed, standings_of, states_of


class ExamplesTest(unittest.TestCase):
    def test_yes_or_no(self):
        told = [is_book(((2,), (1, 3))), is_book(((2,), (1,))), is_standing(DUO, (1, 2)), is_state(DUO, HIGH)]
        self.assertEqual(told, [True, False, False, True])

    def test_lengths(self):
        told = [lengths(DUO, (1, 1)), lengths(DUO, (2, 1)), lengths(TRIO, (3, 2, 1))]
        self.assertEqual(told, [(2, 1), (2, 3), (3, 2, 2)])


class IsBookTest(unittest.TestCase):
    def test_books(self):
        for book in [DUO, TRIO, ONE_RUNG, WIDE, ((1,),), ((10 ** 100,),), *books_up_to(3, 2)]:
            self.assertIs(is_book(book), True, book)

    def test_odd_values(self):
        for value in ODD_VALUES:
            self.assertIs(is_book(value), False, value)

    def test_lists_are_not_accepted(self):
        for value in (
            as_lists(DUO), mixed(DUO), [(2,), (1, 3)], ([2], (1, 3)), ((2,), [1, 3]), ([2], [1, 3]),
        ):
            self.assertIs(is_book(value), False, value)

    def test_booleans_are_not_integers(self):
        for value in (((True,),), ((2,), (True, 3)), ((2,), (3, True)), ((1,), (False,)), ((True,), (1,))):
            self.assertIs(is_book(value), False, value)

    def test_other_items(self):
        for item in (0, -1, None, "1", "", (), (1,), [], [1], False):
            self.assertIs(is_book(((item,),)), False, item)
            self.assertIs(is_book(((2,), (item, 3))), False, item)
            self.assertIs(is_book(((2,), (3, item))), False, item)

    def test_other_tables(self):
        for table in (None, 1, 2, True, "", "13", (), [], [1, 3], ((1, 3),)):
            self.assertIs(is_book((table,)), False, table)
            self.assertIs(is_book(((2,), table)), False, table)
            self.assertIs(is_book(((2,), (1, 1), table)), False, table)

    def test_first_table_has_one_item(self):
        for value in ((), ((),), ((1, 1),), ((2, 1), (1, 1)), ((1, 2, 3),)):
            self.assertIs(is_book(value), False, value)

    def test_tables_of_another_size(self):
        for first in range(1, 5):
            for many in range(7):
                value = ((first,), (1,) * many)
                self.assertIs(is_book(value), many == first, value)

    def test_size_is_that_of_the_greatest_item(self):
        for middle in ((1, 3), (3, 1), (3, 3), (2, 3)):
            for many in range(1, 7):
                value = ((2,), middle, (2,) * many)
                self.assertIs(is_book(value), many == 3, value)

    def test_a_later_table_is_looked_at(self):
        self.assertIs(is_book(TRIO + ((1, 1),)), True)
        self.assertIs(is_book(TRIO + ((1,),)), False)
        self.assertIs(is_book(TRIO + ((1, 1, 1),)), False)

    def test_beyond_the_limits(self):
        self.assertIs(is_book(((1,),) * 300), True)
        self.assertIs(is_book(((5000,), tuple(range(1, 5001)))), True)
        self.assertIs(is_book(((5000,), tuple(range(5000)))), False)


class IsStandingTest(unittest.TestCase):
    def test_exactly_the_standings(self):
        for book in books_up_to(3, 2) + [TRIO]:
            standings = standings_of(book)
            for value in itertools.product(range(-1, 5), repeat=len(book)):
                self.assertIs(is_standing(book, value), value in standings, (book, value))

    def test_odd_values(self):
        for book in (DUO, TRIO, ONE_RUNG, ((1,),), ((2,),)):
            for value in ODD_VALUES:
                self.assertIs(is_standing(book, value), False, (book, value))

    def test_kinds(self):
        for value in ([2, 3], [[2], 3], (2, True), (True, 1), (2, None), (2, "3"), ("2", 3), (2, (3,)), (2, [3])):
            self.assertIs(is_standing(DUO, value), False, value)
        self.assertIs(is_standing(((1,),), (True,)), False)
        self.assertIs(is_standing(((1,),), (1,)), True)

    def test_another_number_of_rungs(self):
        for value in ((), (2,), (2, 3, 1), (1, 1, 1), (1, 1, 1, 1)):
            self.assertIs(is_standing(DUO, value), False, value)

    def test_an_older_rung_that_no_ladder_has(self):
        for value in ((3, 1), (0, 1), (-1, 1), (10 ** 100, 1), (None, 1), ("1", 1), ((1,), 1)):
            self.assertIs(is_standing(DUO, value), False, value)

    def test_books_as_lists(self):
        for book in (as_lists(DUO), mixed(DUO), [(2,), [1, 3]], ([2], (1, 3))):
            self.assertIs(is_standing(book, (2, 3)), True)
            self.assertIs(is_standing(book, (1, 2)), False)
            self.assertIs(is_standing(book, [2, 3]), False)


class IsStateTest(unittest.TestCase):
    def test_states(self):
        for book in books_up_to(3, 2) + [TRIO]:
            for state in states_of(book):
                self.assertIs(is_state(book, state), True, (book, state))

    def test_odd_values(self):
        for book in (DUO, TRIO, ONE_RUNG, ((1,),)):
            for value in ODD_VALUES:
                self.assertIs(is_state(book, value), False, (book, value))
                self.assertIs(is_state(book, (value, (1,) * len(book))), False, (book, value))
                self.assertIs(is_state(book, ((1,) * len(book), value)), False, (book, value))

    def test_wrong_standings(self):
        for standing in ((1, 2), (3, 1), (0, 1), (2,), (2, 3, 1), (2, True), [2, 3]):
            self.assertIs(is_state(DUO, (standing, (1, -1))), False, standing)

    def test_wrong_faces(self):
        for faces in (
            (1, 0), (0, 1), (2, 1), (1, -2), (1, True), (True, -1), (1, None), (1, "1"), (1, (1,)), (1, [1]),
            (1,), (1, 1, 1), (), [1, 1], "11", None, 1,
        ):
            self.assertIs(is_state(DUO, ((2, 3), faces)), False, faces)

    def test_wrong_pairs(self):
        for value in (
            [(2, 3), (1, -1)], ((2, 3),), ((2, 3), (1, -1), ()), ((2, 3), (1, -1), (1, -1)), (2, 3, 1, -1),
            ((1, -1), (2, 3)), ([2, 3], (1, -1)), ((2, 3), [1, -1]), as_lists(HIGH),
        ):
            self.assertIs(is_state(DUO, value), False, value)

    def test_a_ladder_of_one_rung_has_both_faces(self):
        self.assertEqual([is_state(((1,),), ((1,), (face,))) for face in (1, -1, 0)], [True, True, False])

    def test_books_as_lists(self):
        for book in (as_lists(DUO), mixed(DUO), [(2,), [1, 3]], ([2], (1, 3))):
            self.assertIs(is_state(book, HIGH), True)
            self.assertIs(is_state(book, as_lists(HIGH)), False)


class LengthsTest(unittest.TestCase):
    def test_against_the_words(self):
        for book in books_up_to(3, 3):
            for standing in standings_of(book):
                wanted = [book[0][0]]
                for older, table in zip(standing, book[1:]):
                    wanted.append(table[older - 1])
                self.assertEqual(lengths(book, standing), tuple(wanted))

    def test_one_climber(self):
        self.assertEqual(lengths(((5,),), (3,)), (5,))

    def test_at_the_limits(self):
        self.assertEqual(lengths(WIDE, (12,) * 20), (12,) * 20)

    def test_lists_give_a_tuple(self):
        for book, standing in (
            (as_lists(DUO), [2, 1]), (DUO, [2, 1]), (as_lists(DUO), (2, 1)), (mixed(DUO), [2, 1]), ([(2,), [1, 3]], (2, 1)),
        ):
            told = lengths(book, standing)
            self.assertEqual(told, (2, 3))
            self.assertIs(type(told), tuple)


class ConventionsTest(unittest.TestCase):
    def test_arguments_by_name(self):
        self.assertIs(is_book(value=DUO), True)
        self.assertIs(is_standing(book=DUO, value=(2, 3)), True)
        self.assertIs(is_standing(value=(1, 2), book=DUO), False)
        self.assertIs(is_state(book=DUO, value=LOW), True)
        self.assertIs(is_state(value=(LOW, LOW), book=DUO), False)
        self.assertEqual(lengths(standing=(2, 1), book=DUO), (2, 3))

    def test_arguments_stay_as_they_are(self):
        book, standing, value = as_lists(TRIO), [3, 2, 1], as_lists(((3, 2, 1), (1, -1, 1)))
        kept = copy.deepcopy((book, standing, value))
        is_book(book)
        is_standing(book, standing)
        is_state(book, value)
        is_state(book, (standing, value))
        lengths(book, standing)
        self.assertEqual((book, standing, value), kept)

    def test_a_later_change_of_an_argument(self):
        book, standing = as_lists(DUO), [2, 1]
        told = lengths(book, standing)
        book[1][1], standing[0] = 9, 1
        self.assertEqual(told, (2, 3))
        self.assertEqual(lengths(book, [2, 1]), (2, 9))


if __name__ == "__main__":
    unittest.main()
