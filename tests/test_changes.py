"""Point [12], with the conventions of [2] as far as they touch changes.py."""

import copy
import unittest

from aboutface.beats import beat
from aboutface.books import is_book, is_state
from aboutface.changes import part, part_state, steps_many, with_climber, with_table
from aboutface.counts import round_length
from aboutface.errors import BadTable, NoClimber
from aboutface.goes import goes_many, turns_many
from aboutface.rounds import after, start, state_at
from tests.samples import ALONE, BIG_BOOKS, CHOSEN_BOOKS, DUO, FLAT, LATE, LOW, ONE_RUNG, SMALL_BOOKS, TRIO, WIDE
from tests.samples import as_lists, count_along, mixed, starts_and_rounds, states_of

FAR = 10 ** 60
SIGNS = (-1, 1, -1, -1, 1, 1, 1, -1, 1, -1, 1, 1, -1, 1, -1, -1, -1, 1, 1)
GREAT_BOOKS = BIG_BOOKS + (LATE,)


class RaisingTest(unittest.TestCase):
    def check_raised(self, error, climber, call, *values):
        with self.assertRaises(error) as caught:
            call(*values)
        self.assertIs(type(caught.exception), error)
        self.assertEqual(vars(caught.exception), {"climber": climber})


class ExamplesTest(RaisingTest):
    def test_parts(self):
        found = [part(TRIO, 2), part_state(((3, 2, 1), (1, -1, 1)), 2)]
        self.assertEqual(found, [((3,), (2, 1, 2)), ((3, 2), (1, -1))])

    def test_steps(self):
        found = [steps_many(DUO, LOW, 1, 8), steps_many(DUO, LOW, 2, 8), steps_many(TRIO, start(TRIO, (1, 1)), 1, 14)]
        self.assertEqual(found, [4, 8, 6])

    def test_tables(self):
        found = [with_climber(DUO, (1, 1, 2)), with_table(DUO, 1, (2, 2))]
        self.assertEqual(found, [((2,), (1, 3), (1, 1, 2)), ((2,), (2, 2))])
        self.check_raised(BadTable, 1, with_table, DUO, 0, (3,))


class PartTest(RaisingTest):
    def test_every_part(self):
        for book in SMALL_BOOKS + list(GREAT_BOOKS):
            for many in range(1, len(book) + 1):
                self.assertEqual(part(book, many), book[:many])
                self.assertTrue(is_book(part(book, many)))

    def test_every_part_of_a_state(self):
        for book in CHOSEN_BOOKS:
            for state in states_of(book):
                for many in range(1, len(book) + 1):
                    self.assertEqual(part_state(state, many), (state[0][:many], state[1][:many]))
                    self.assertTrue(is_state(part(book, many), part_state(state, many)))

    def test_other_numbers(self):
        for book in (DUO, TRIO, ALONE, ONE_RUNG, WIDE, as_lists(TRIO)):
            state = ((1,) * len(book), (1,) * len(book))
            for many in (0, -1, -2, -len(book), len(book) + 1, len(book) + 2, 99, FAR, -FAR):
                self.check_raised(NoClimber, many, part, book, many)
                self.check_raised(NoClimber, many, part_state, state, many)
                self.check_raised(NoClimber, many, part_state, as_lists(state), many)


class StepsTest(RaisingTest):
    def test_along_with_beats(self):
        for book in CHOSEN_BOOKS:
            for states, movers in starts_and_rounds(book):
                length = len(states)
                for older in range(1, len(book) + 1):
                    steps = [goer is None or goer < older for goer in movers]
                    for first, state in enumerate(states):
                        for many in (0, 1, length // 2, length, 3 * length + 2, FAR):
                            found = steps_many(book, state, older, many)
                            self.assertEqual(found, count_along(steps, first, many), book)

    def test_beats_of_a_part(self):
        for book in SMALL_BOOKS:
            for at, state in enumerate(states_of(book)[::5]):
                for older in range(1, len(book) + 1):
                    many = (7 * at + older) % (3 * round_length(book))
                    alone = part_state(state, older)
                    for number in range(steps_many(book, state, older, many)):
                        alone = beat(part(book, older), alone)
                    self.assertEqual(part_state(after(book, state, many), older), alone, book)

    def test_everybody(self):
        for book in CHOSEN_BOOKS + list(GREAT_BOOKS):
            state = ((1,) * len(book), (1, -1, 1, 1) * 5)
            state = (state[0], state[1][: len(book)])
            for many in (0, 1, 5, FAR):
                self.assertEqual(steps_many(book, state, len(book), many), many)

    def test_great_books(self):
        for book in GREAT_BOOKS:
            state = state_at(book, SIGNS, FAR // 7)
            for older in (1, 2, 10, 19):
                alone = part_state(state, older)
                for many in (0, 999, FAR):
                    steps = steps_many(book, state, older, many)
                    self.assertEqual(after(part(book, older), alone, steps), part_state(after(book, state, many), older))
                    goes = [goes_many(book, state, climber, many) for climber in range(older)]
                    self.assertEqual(steps, sum(goes) + turns_many(book, state, 0, many))
                whole = round_length(part(book, older))
                self.assertEqual(steps_many(book, state, older, 10 ** 30 * round_length(book)), 10 ** 30 * whole)

    def test_ladders_of_one_rung(self):
        for book in (((1,),), ONE_RUNG, FLAT):
            state = ((1,) * len(book), (-1,) * len(book))
            for older in range(1, len(book) + 1):
                self.assertEqual([steps_many(book, state, older, many) for many in (0, 1, 2, FAR)], [0, 1, 2, FAR])

    def test_other_numbers(self):
        for book in (DUO, TRIO, ALONE, ONE_RUNG, WIDE, as_lists(TRIO)):
            state = ((1,) * len(book), (1,) * len(book))
            for older in (0, -1, -len(book), len(book) + 1, 99, FAR, -FAR):
                for many in (0, 1, FAR):
                    self.check_raised(NoClimber, older, steps_many, book, state, older, many)


class TablesTest(RaisingTest):
    def test_one_more_climber(self):
        for book in SMALL_BOOKS:
            wanted = max(book[-1])
            for items in range(wanted + 3):
                table = tuple((3 * at + items) % 5 + 1 for at in range(items))
                if items == wanted:
                    self.assertEqual(with_climber(book, table), book + (table,))
                    self.assertTrue(is_book(with_climber(book, table)))
                else:
                    self.check_raised(BadTable, len(book), with_climber, book, table)
                    self.check_raised(BadTable, len(book), with_climber, as_lists(book), list(table))

    def test_more_than_twenty_climbers(self):
        self.assertEqual(with_climber(WIDE, (5,) * 12), WIDE + ((5,) * 12,))
        self.check_raised(BadTable, 20, with_climber, WIDE, (5,) * 11)

    def test_another_table(self):
        for book in SMALL_BOOKS:
            for climber, old in enumerate(book):
                for items in range(len(old) + 2):
                    for greatest in (1, 2, 3, 4):
                        table = tuple(max(1, greatest - at) for at in range(items))
                        self.check_other_table(book, climber, table)
                        self.check_other_table(book, climber, table[::-1])

    def check_other_table(self, book, climber, table):
        if len(table) != len(book[climber]):
            self.check_raised(BadTable, climber, with_table, book, climber, table)
        elif climber + 1 < len(book) and len(book[climber + 1]) != max(table):
            self.check_raised(BadTable, climber + 1, with_table, book, climber, table)
        else:
            wanted = book[:climber] + (table,) + book[climber + 1:]
            self.assertEqual(with_table(book, climber, table), wanted)
            self.assertTrue(is_book(wanted))

    def test_no_items(self):
        for climber in range(3):
            self.check_raised(BadTable, climber, with_table, TRIO, climber, ())
            self.check_raised(BadTable, climber, with_table, TRIO, climber, [])
        self.check_raised(BadTable, 3, with_climber, TRIO, ())
        self.check_raised(BadTable, 1, with_climber, ((1,),), [])

    def test_no_climber_comes_first(self):
        for book in (DUO, TRIO, ALONE, WIDE, as_lists(TRIO)):
            for climber in (-1, -len(book), len(book), len(book) + 1, FAR, -FAR):
                for table in ((), (1,), (1, 2), (5,) * 12):
                    self.check_raised(NoClimber, climber, with_table, book, climber, table)

    def test_the_new_table_comes_before_the_next_one(self):
        self.check_raised(BadTable, 1, with_table, TRIO, 1, (9, 9))
        self.check_raised(BadTable, 2, with_table, TRIO, 1, (9, 9, 9))
        self.check_raised(BadTable, 0, with_table, TRIO, 0, (9, 9))
        self.check_raised(BadTable, 1, with_table, TRIO, 0, (9,))

    def test_the_youngest(self):
        self.assertEqual(with_table(TRIO, 2, (12, 1)), ((3,), (2, 1, 2), (12, 1)))
        self.assertEqual(with_table(ALONE, 0, (9,)), ((9,),))
        self.check_raised(BadTable, 0, with_table, ALONE, 0, (9, 9))


class ConventionsTest(unittest.TestCase):
    def test_lists_in_place_of_tuples(self):
        for book in (as_lists(TRIO), mixed(TRIO), [(3,), [2, 1, 2], (1, 2)], ((3,), (2, 1, 2), [1, 2])):
            for many in (1, 2, 3):
                self.assertEqual(part(book, many), part(TRIO, many))
            for table in ((4, 2), [4, 2]):
                self.assertEqual(with_climber(book, table), TRIO + ((4, 2),))
                self.assertEqual(with_table(book, 2, table), TRIO[:2] + ((4, 2),))
            self.assertEqual(with_table(book, 0, [3]), TRIO)
            for state in states_of(TRIO)[::7]:
                for given in (as_lists(state), (list(state[0]), state[1]), [state[0], list(state[1])]):
                    self.assertEqual(part_state(given, 2), part_state(state, 2))
                    self.assertEqual(steps_many(book, given, 2, 9), steps_many(TRIO, state, 2, 9))

    def test_tuples_are_returned_for_lists(self):
        book = as_lists(TRIO)
        for found in (part(book, 2), part(book, 3), with_climber(book, [4, 2]), with_table(book, 2, [4, 2]),
                      with_table(book, 0, [3]), part_state([[3, 2, 1], [1, -1, 1]], 3), part_state([[1], [1]], 1)):
            self.assertIs(type(found), tuple)
            self.assertEqual({type(row) for row in found}, {tuple})

    def test_arguments_by_name(self):
        self.assertEqual(part(many=1, book=DUO), ((2,),))
        self.assertEqual(part_state(many=1, state=LOW), ((1,), (1,)))
        self.assertEqual(steps_many(many=8, older=1, state=LOW, book=DUO), 4)
        self.assertEqual(with_climber(table=(1, 1, 2), book=DUO), DUO + ((1, 1, 2),))
        self.assertEqual(with_table(table=(2, 2), climber=1, book=DUO), ((2,), (2, 2)))

    def test_arguments_stay_as_they_are(self):
        book, state, table = as_lists(TRIO), as_lists(states_of(TRIO)[9]), [4, 2]
        kept = copy.deepcopy((book, state, table))
        part(book=book, many=2)
        part_state(state=state, many=2)
        steps_many(book=book, state=state, older=2, many=20)
        with_climber(book=book, table=table)
        with_table(book=book, climber=2, table=table)
        self.assertRaises(BadTable, with_table, book=book, climber=1, table=table)
        self.assertRaises(BadTable, with_climber, book=book, table=[1])
        self.assertRaises(NoClimber, part, book=book, many=4)
        self.assertEqual((book, state, table), kept)

    def test_a_later_change_of_an_argument(self):
        book, state, table = as_lists(TRIO), as_lists(states_of(TRIO)[9]), [4, 2]
        found = [part(book, 3), part_state(state, 3), with_climber(book, table), with_table(book, 2, table)]
        kept = copy.deepcopy(found)
        book[1][1], state[0][0], state[1][2], table[0] = 2, 3, 7, 9
        self.assertEqual(found, kept)


if __name__ == "__main__":
    unittest.main()
