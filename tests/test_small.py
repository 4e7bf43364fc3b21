"""Point [11] and the guarantees (a), (b) of [1], with the conventions of [2] as far as they touch small.py."""

import copy
import unittest

from aboutface.beats import beat, turned
from aboutface.counts import round_length, rounds_many
from aboutface.errors import TooMany
from aboutface.rounds import clock, is_signs, signs_of
from aboutface.small import MOST, all_rounds, round_of
from tests.samples import ALONE, CHOSEN_BOOKS, DUO, FLAT, LOW, ONE_RUNG, SMALL_BOOKS, TRIO, WIDE
from tests.samples import as_lists, mixed, rounds_by_beats, standings_of, states_of

EXACT = ((10,), (10,) * 10, (10,) * 10)
ONE_MORE = ((10,), (10,) * 9 + (11,), (10,) * 10 + (1,))
ELEVEN = ((1,),) * 11
TWELVE = ((1,),) * 12
# 12 climbers and 1001 standings: too great for both reasons.
BOTH = ONE_MORE + ((1,) * 10,) + ((1,),) * 8


class ExamplesTest(unittest.TestCase):
    def test_most(self):
        self.assertEqual(MOST, 2000)
        self.assertIs(type(MOST), int)

    def test_round_of(self):
        self.assertEqual(round_of(((2,),), ((1,), (1,))), [((1,), (1,)), ((2,), (1,)), ((2,), (-1,)), ((1,), (-1,))])

    def test_all_rounds(self):
        self.assertEqual(all_rounds(DUO), [((1, 1), (1, -1)), ((1, 1), (1, 1))])


class SmallRoundsTest(unittest.TestCase):
    """Rounds of small books, gone through beat by beat."""

    def test_round_of_from_every_state(self):
        for book in CHOSEN_BOOKS:
            for states in rounds_by_beats(book):
                for first, state in enumerate(states):
                    self.assertEqual(round_of(book, state), list(states[first:] + states[:first]), book)

    def test_round_of_in_every_small_book(self):
        for book in SMALL_BOOKS:
            for states in rounds_by_beats(book):
                first = len(states) // 3
                self.assertEqual(round_of(book, states[first]), list(states[first:] + states[:first]), book)

    def test_all_rounds(self):
        for book in SMALL_BOOKS + CHOSEN_BOOKS:
            starts = [states[0] for states in rounds_by_beats(book)]
            self.assertEqual(all_rounds(book), sorted(starts, key=lambda state: state[1][1:]), book)

    def test_every_standing_comes_by_twice(self):
        for book in CHOSEN_BOOKS:
            for state in states_of(book):
                states = round_of(book, state)
                self.assertEqual(states[0], state)
                self.assertEqual(beat(book, states[-1]), state)
                self.assertEqual(sorted(standing for standing, faces in states), sorted(2 * standings_of(book)))
                self.assertEqual(sorted(states), sorted(map(turned, states)))
                self.assertEqual(len(set(states)), round_length(book))

    def test_all_states_are_in_one_of_all_rounds(self):
        for book in SMALL_BOOKS:
            found = [state for first in all_rounds(book) for state in round_of(book, first)]
            self.assertEqual(sorted(found), sorted(states_of(book)))

    def test_signs_of_all_rounds(self):
        for book in CHOSEN_BOOKS:
            starts = all_rounds(book)
            signs = [signs_of(book, first) for first in starts]
            self.assertEqual(signs, sorted(set(signs)))
            self.assertEqual(len(signs), rounds_many(book))
            self.assertTrue(all(is_signs(book, one) for one in signs))
            self.assertEqual([clock(book, first) for first in starts], [0] * len(starts))


class EdgesTest(unittest.TestCase):
    def check_too_many(self, many, call, *values):
        with self.assertRaises(TooMany) as caught:
            call(*values)
        self.assertIs(type(caught.exception), TooMany)
        self.assertEqual(caught.exception.many, many)

    def test_exactly_2000_beats(self):
        self.assertEqual(round_length(EXACT), 2000)
        state = ((3, 4, 5), (1, -1, 1))
        states = round_of(EXACT, state)
        self.assertEqual(len(states), 2000)
        self.assertEqual(len(set(states)), 2000)
        self.assertEqual([states[0], beat(EXACT, states[-1])], [state, state])
        self.assertEqual(all_rounds(EXACT), [((1, 10, 10), (1, -1, -1)), ((1, 10, 1), (1, -1, 1)),
                                             ((1, 1, 10), (1, 1, -1)), ((1, 1, 1), (1, 1, 1))])
        self.assertEqual(len(round_of(((1000,),), ((1000,), (-1,)))), 2000)

    def test_more_than_2000_beats(self):
        for book, many in ((ONE_MORE, 2002), (((1001,),), 2002), (WIDE, 2 * 12 ** 20), (EXACT + ((2,) * 10,), 4000)):
            state = ((1,) * len(book), (-1,) * len(book))
            self.check_too_many(many, round_of, book, state)
            self.check_too_many(many, all_rounds, book)

    def test_eleven_climbers(self):
        starts = all_rounds(ELEVEN)
        self.assertEqual(len(starts), 1024)
        self.assertEqual([starts[0], starts[1], starts[-1]],
                         [((1,) * 11, (1,) + (-1,) * 10), ((1,) * 11, (1,) + (-1,) * 9 + (1,)), ((1,) * 11, (1,) * 11)])
        self.assertEqual(starts, sorted(set(starts)))

    def test_twelve_climbers(self):
        self.check_too_many(2048, all_rounds, TWELVE)
        self.check_too_many(2 ** 19, all_rounds, FLAT)
        # One round of them is small all the same.
        state = ((1,) * 12, (1, -1) * 6)
        self.assertEqual(round_of(TWELVE, state), [state, turned(state)])
        book = EXACT + ((1,) * 10,) + ((1,),) * 8
        self.assertEqual([round_length(book), len(book)], [2000, 12])
        self.check_too_many(2048, all_rounds, book)

    def test_too_great_for_both_reasons(self):
        self.assertEqual([round_length(BOTH), rounds_many(BOTH)], [2002, 2048])
        self.check_too_many(2002, all_rounds, BOTH)
        self.check_too_many(2002, round_of, BOTH, ((1,) * 12, (1,) * 12))
        self.check_too_many(2 * 12 ** 20, all_rounds, WIDE)

    def test_ladders_of_one_rung(self):
        for faces in ((1, 1, 1), (-1, 1, -1)):
            state = ((1, 1, 1), faces)
            self.assertEqual(round_of(ONE_RUNG, state), [state, turned(state)])
        self.assertEqual(all_rounds(ONE_RUNG), [((1, 1, 1), (1, one, other)) for one in (-1, 1) for other in (-1, 1)])

    def test_one_climber(self):
        self.assertEqual(all_rounds(ALONE), [((1,), (1,))])
        self.assertEqual(round_of(ALONE, ((4,), (-1,)))[:3], [((4,), (-1,)), ((3,), (-1,)), ((2,), (-1,))])
        self.assertEqual(all_rounds(((1,),)), [((1,), (1,))])


class ConventionsTest(unittest.TestCase):
    def test_lists_in_place_of_tuples(self):
        for state in states_of(TRIO):
            standing, faces = state
            for book in (as_lists(TRIO), mixed(TRIO), [(3,), [2, 1, 2], (1, 2)], ((3,), (2, 1, 2), [1, 2])):
                for given in (as_lists(state), (list(standing), faces), (standing, list(faces)), [standing, faces]):
                    self.assertEqual(round_of(book, given), round_of(TRIO, state))
                self.assertEqual(all_rounds(book), all_rounds(TRIO))

    def test_tuples_are_returned_for_lists(self):
        for found in (round_of(as_lists(DUO), as_lists(LOW)), all_rounds(as_lists(DUO)), all_rounds([[1]])):
            self.assertIs(type(found), list)
            for state in found:
                self.assertEqual([type(state), type(state[0]), type(state[1])], [tuple] * 3)

    def test_arguments_by_name(self):
        self.assertEqual(round_of(state=LOW, book=DUO), round_of(DUO, LOW))
        self.assertEqual(all_rounds(book=DUO), all_rounds(DUO))

    def test_arguments_stay_as_they_are(self):
        book, given = as_lists(TRIO), as_lists(states_of(TRIO)[5])
        kept = copy.deepcopy((book, given))
        round_of(book=book, state=given)
        all_rounds(book=book)
        self.assertEqual((book, given), kept)
        great = as_lists(WIDE)
        self.assertRaises(TooMany, all_rounds, great)
        self.assertEqual(great, as_lists(WIDE))

    def test_returned_lists_belong_to_the_caller(self):
        for call, *values in ((round_of, DUO, LOW), (all_rounds, DUO)):
            first = call(*values)
            kept = list(first)
            first.clear()
            second = call(*values)
            self.assertEqual(second, kept)
            second.append("more")
            second[0] = None
            self.assertEqual(call(*values), kept)

    def test_a_later_change_of_an_argument(self):
        book, given = as_lists(DUO), as_lists(LOW)
        found = round_of(book, given)
        kept = copy.deepcopy(found)
        given[0][0], given[1][1], book[1][1] = 2, -1, 1
        self.assertEqual(found, kept)


if __name__ == "__main__":
    unittest.main()
