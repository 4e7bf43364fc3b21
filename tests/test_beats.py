"""Point [5], with the conventions of [2] as far as they touch beats.py."""

import copy
import unittest

from aboutface.beats import beat, beats_along, before, blocked, mover, turned
from aboutface.books import is_state
from tests.samples import DUO, HIGH, LOW, ONE_RUNG, TRIO, WIDE
from tests.samples import as_lists, books_up_to, mixed, standings_of, states_of

STUCK = ((2, 1), (1, -1))
BOOKS = books_up_to(3, 3) + [((2,), (2, 1), (1, 2), (3, 1)), ((1,), (2,), (1, 1), (2,))]


def told_length(book, standing, climber):
    return book[climber][standing[climber - 1] - 1] if climber else book[0][0]


def told_blocked(book, state):
    """The blocked climbers by the words of [5]."""
    standing, faces = state
    found = []
    for climber in range(len(book)):
        on_top = standing[climber] == told_length(book, standing, climber)
        if (faces[climber] == 1 and on_top) or (faces[climber] == -1 and standing[climber] == 1):
            found.append(climber)
    return found


def told_beat(book, state):
    """A beat by the words of [5], in place and climber by climber."""
    standing, faces = list(state[0]), list(state[1])
    stuck = told_blocked(book, state)
    climber = len(book) - 1
    while climber in stuck:
        faces[climber] = -faces[climber]
        climber -= 1
    if climber >= 0:
        standing[climber] += faces[climber]
        for younger in range(climber + 1, len(book)):
            faced_up = state[1][younger] == 1
            if faced_up:
                standing[younger] = told_length(book, standing, younger)
    return tuple(standing), tuple(faces)


class ExamplesTest(unittest.TestCase):
    def test_blocked_and_mover(self):
        told = [blocked(DUO, LOW), mover(DUO, LOW), blocked(DUO, STUCK), mover(DUO, STUCK)]
        self.assertEqual(told, [[1], 0, [0, 1], None])

    def test_beat(self):
        self.assertEqual(beat(DUO, LOW), ((2, 3), (1, -1)))

    def test_beats_along(self):
        wanted = [((2, 1), (1, -1)), ((2, 1), (-1, 1)), ((2, 2), (-1, 1))]
        self.assertEqual(beats_along(DUO, STUCK, 2), wanted)

    def test_turned_and_before(self):
        self.assertEqual([turned(LOW), before(DUO, HIGH)], [((1, 1), (-1, -1)), ((1, 1), (1, 1))])


class BlockedTest(unittest.TestCase):
    def test_against_the_words(self):
        for book in BOOKS:
            for state in states_of(book):
                stuck = told_blocked(book, state)
                free = [climber for climber in range(len(book)) if climber not in stuck]
                self.assertEqual(blocked(book, state), stuck)
                self.assertEqual(mover(book, state), max(free, default=None))

    def test_both_ends_and_between(self):
        book = ((3,),)
        found = [blocked(book, ((rung,), (face,))) for face in (1, -1) for rung in (1, 2, 3)]
        self.assertEqual(found, [[], [], [0], [0], [], []])

    def test_one_rung_is_blocked_with_both_faces(self):
        for state in states_of(ONE_RUNG):
            self.assertEqual(blocked(ONE_RUNG, state), [0, 1, 2])
            self.assertIsNone(mover(ONE_RUNG, state))

    def test_the_youngest_goes_first(self):
        book = ((3,), (3, 3, 3), (3, 3, 3))
        self.assertEqual(mover(book, ((2, 2, 2), (1, 1, 1))), 2)
        self.assertEqual(mover(book, ((2, 2, 3), (1, 1, 1))), 1)
        self.assertEqual(mover(book, ((2, 1, 3), (1, -1, 1))), 0)
        self.assertEqual(mover(book, ((3, 2, 3), (1, 1, 1))), 1)


class BeatTest(unittest.TestCase):
    def test_against_the_words(self):
        for book in BOOKS:
            for state in states_of(book):
                self.assertEqual(beat(book, state), told_beat(book, state))

    def test_up_and_down(self):
        self.assertEqual(beat(((3,),), ((2,), (1,))), ((3,), (1,)))
        self.assertEqual(beat(((3,),), ((2,), (-1,))), ((1,), (-1,)))

    def test_only_the_younger_turn(self):
        book = ((3,), (3, 3, 3), (3, 3, 3))
        self.assertEqual(beat(book, ((2, 2, 3), (-1, 1, 1))), ((2, 3, 3), (-1, 1, -1)))
        self.assertEqual(beat(book, ((2, 3, 1), (1, 1, -1))), ((3, 3, 1), (1, -1, 1)))

    def test_everybody_is_blocked(self):
        self.assertEqual(beat(DUO, STUCK), ((2, 1), (-1, 1)))
        self.assertEqual(beat(((1,),), ((1,), (1,))), ((1,), (-1,)))
        self.assertEqual(beat(ONE_RUNG, ((1, 1, 1), (1, -1, 1))), ((1, 1, 1), (-1, 1, -1)))
        self.assertEqual(beat(TRIO, ((3, 2, 2), (1, 1, 1))), ((3, 2, 2), (-1, -1, -1)))

    def test_on_one_rung_the_face_counts(self):
        self.assertEqual(beat(DUO, ((1, 1), (1, 1))), ((2, 3), (1, -1)))
        self.assertEqual(beat(DUO, ((1, 1), (1, -1))), ((2, 1), (1, 1)))

    def test_a_top_that_moves_changes_the_next_ladder(self):
        book = ((2,), (1, 3), (1, 2, 4))
        self.assertEqual(beat(book, ((1, 1, 1), (1, 1, 1))), ((2, 3, 4), (1, -1, -1)))
        self.assertEqual(beat(book, ((1, 1, 1), (1, 1, -1))), ((2, 3, 1), (1, -1, 1)))
        self.assertEqual(beat(book, ((1, 1, 1), (1, -1, 1))), ((2, 1, 1), (1, 1, -1)))

    def test_a_top_that_sinks(self):
        book = ((2,), (1, 3), (1, 2, 4))
        self.assertEqual(beat(book, ((2, 3, 4), (-1, 1, 1))), ((1, 1, 1), (-1, -1, -1)))
        self.assertEqual(beat(book, ((2, 3, 1), (-1, 1, -1))), ((1, 1, 1), (-1, -1, 1)))

    def test_all_standings_come_by_twice_with_opposite_faces(self):
        for book in books_up_to(3, 2) + [TRIO]:
            many = len(standings_of(book))
            for state in states_of(book):
                states = beats_along(book, state, 2 * many)
                self.assertEqual(states[-1], state)
                self.assertEqual(len(set(states[:-1])), 2 * many)
                self.assertEqual({turned(one) for one in states}, set(states))
                self.assertEqual({one[0] for one in states}, set(standings_of(book)))

    def test_a_beat_leads_to_a_state(self):
        for book in BOOKS:
            for state in states_of(book):
                self.assertTrue(is_state(book, beat(book, state)))


class BeatsAlongTest(unittest.TestCase):
    def test_each_is_the_beat_of_the_one_before(self):
        for book in books_up_to(2, 3) + [TRIO]:
            for state in states_of(book):
                states = beats_along(book, state, 9)
                self.assertEqual(len(states), 10)
                self.assertEqual(states[0], state)
                for one, other in zip(states, states[1:]):
                    self.assertEqual(other, told_beat(book, one))

    def test_no_beat(self):
        self.assertEqual(beats_along(DUO, HIGH, 0), [HIGH])
        self.assertEqual(beats_along(DUO, HIGH, 1), [HIGH, ((2, 2), (1, -1))])

    def test_at_the_limits(self):
        state = ((1,) * 20, (1,) * 20)
        states = beats_along(WIDE, state, 1000)
        self.assertEqual(len(states), 1001)
        self.assertEqual(len(set(states)), 1001)
        for one, other in zip(states, states[1:]):
            self.assertEqual(other, told_beat(WIDE, one))


class BackTest(unittest.TestCase):
    def test_before_and_beat_are_inverse(self):
        for book in BOOKS:
            for state in states_of(book):
                self.assertEqual(before(book, beat(book, state)), state)
                self.assertEqual(beat(book, before(book, state)), state)

    def test_before_by_going_through_all(self):
        for book in books_up_to(3, 2) + [TRIO]:
            states = states_of(book)
            for state in states:
                led = [one for one in states if told_beat(book, one) == state]
                self.assertEqual(led, [before(book, state)])

    def test_before_everybody_turned(self):
        self.assertEqual(before(DUO, ((2, 1), (-1, 1))), STUCK)
        self.assertEqual(before(((1,),), ((1,), (1,))), ((1,), (-1,)))

    def test_turned(self):
        self.assertEqual(turned(((3, 2, 1), (1, -1, 1))), ((3, 2, 1), (-1, 1, -1)))
        for state in states_of(TRIO):
            self.assertEqual(turned(turned(state)), state)
            self.assertEqual(turned(state)[0], state[0])
            self.assertEqual([one + other for one, other in zip(state[1], turned(state)[1])], [0, 0, 0])


def is_pair_of_tuples(state):
    return type(state) is tuple and [type(part) for part in state] == [tuple, tuple]


class ConventionsTest(unittest.TestCase):
    def test_lists_in_place_of_tuples(self):
        for state in states_of(TRIO):
            standing, faces = state
            for book in (as_lists(TRIO), mixed(TRIO), TRIO, [(3,), [2, 1, 2], (1, 2)]):
                for given in (
                    as_lists(state), (list(standing), faces), (standing, list(faces)), [standing, list(faces)], state,
                ):
                    self.assertEqual(blocked(book, given), blocked(TRIO, state))
                    self.assertEqual(mover(book, given), mover(TRIO, state))
                    self.assertEqual(beat(book, given), beat(TRIO, state))
                    self.assertEqual(before(book, given), before(TRIO, state))
                    self.assertEqual(turned(given), turned(state))
                    self.assertEqual(beats_along(book, given, 3), beats_along(TRIO, state, 3))

    def test_tuples_are_returned_for_lists(self):
        for state in states_of(TRIO):
            book, given = as_lists(TRIO), as_lists(state)
            returned = [beat(book, given), before(book, given), turned(given), *beats_along(book, given, 2)]
            self.assertTrue(all(is_pair_of_tuples(one) for one in returned), returned)
        self.assertEqual(beats_along(as_lists(DUO), as_lists(LOW), 0), [LOW])

    def test_lists_are_returned(self):
        self.assertIs(type(blocked(DUO, LOW)), list)
        self.assertIs(type(beats_along(DUO, LOW, 0)), list)

    def test_arguments_by_name(self):
        self.assertEqual(blocked(state=LOW, book=DUO), [1])
        self.assertEqual(mover(book=DUO, state=LOW), 0)
        self.assertEqual(beat(state=LOW, book=DUO), HIGH)
        self.assertEqual(beats_along(many=1, state=LOW, book=DUO), [LOW, HIGH])
        self.assertEqual(turned(state=LOW), ((1, 1), (-1, -1)))
        self.assertEqual(before(state=HIGH, book=DUO), LOW)

    def test_arguments_stay_as_they_are(self):
        for state in states_of(TRIO):
            book, given = as_lists(TRIO), as_lists(state)
            kept = copy.deepcopy((book, given))
            blocked(book=book, state=given)
            mover(book=book, state=given)
            beat(book=book, state=given)
            beats_along(book=book, state=given, many=3)
            turned(state=given)
            before(book=book, state=given)
            self.assertEqual((book, given), kept)

    def test_returned_lists_belong_to_the_caller(self):
        stuck = blocked(DUO, STUCK)
        stuck.append(7)
        stuck[0] = 5
        self.assertEqual(blocked(DUO, STUCK), [0, 1])
        self.assertIsNone(mover(DUO, STUCK))
        states = beats_along(DUO, LOW, 2)
        states.clear()
        self.assertEqual(beats_along(DUO, LOW, 2), [LOW, HIGH, ((2, 2), (1, -1))])

    def test_a_later_change_of_an_argument(self):
        book, given = as_lists(DUO), as_lists(LOW)
        returned = [beat(book, given), turned(given), before(book, given), beats_along(book, given, 1)]
        kept = copy.deepcopy(returned)
        book[1][1], given[0][0], given[1][0] = 2, 2, -1
        self.assertEqual(returned, kept)

    def test_returned_values_are_passed_in_again(self):
        state = LOW
        for number in range(8):
            state = beat(DUO, state)
        self.assertEqual(state, LOW)


if __name__ == "__main__":
    unittest.main()
