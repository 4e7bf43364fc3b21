"""Point [8] and guarantee (d) of [1], with the conventions of [2] as far as they touch goes.py."""

import copy
import unittest

from aboutface.beats import beats_along, mover, turned
from aboutface.counts import goes_in_round, round_length
from aboutface.errors import NoClimber
from aboutface.goes import goes_many, next_go, next_turn, turns_many
from aboutface.rounds import after, state_at
from tests.samples import ALONE, BIG_BOOKS, CHOSEN_BOOKS, DUO, FLAT, LATE, LOW, ONE_RUNG, SMALL_BOOKS, TRIO, WIDE
from tests.samples import as_lists, count_along, mixed, next_along, starts_and_rounds, states_of

FAR = 10 ** 60
SIGNS = (-1, 1, 1, -1, -1, 1, -1, 1, -1, -1, -1, 1, 1, 1, -1, 1, 1, -1, 1)
GREAT_BOOKS = BIG_BOOKS + (LATE,)


def goes_of(movers, climber):
    """At which beats of a round the climber goes."""
    return [goer == climber for goer in movers]


def turns_of(states, climber):
    """At which beats of a round the climber turns about, seen by the faces."""
    faces = [faces[climber] for standing, faces in states]
    return [faces[at] != faces[(at + 1) % len(faces)] for at in range(len(faces))]


class ExamplesTest(unittest.TestCase):
    def test_how_often(self):
        found = [goes_many(DUO, LOW, 0, 8), goes_many(DUO, LOW, 1, 3), turns_many(DUO, LOW, 1, 8),
                 turns_many(DUO, LOW, 0, 8)]
        self.assertEqual(found, [2, 2, 4, 2])

    def test_when_next(self):
        found = [next_go(DUO, LOW, 0), next_go(DUO, LOW, 1), next_turn(DUO, LOW, 0),
                 next_go(((1,),), ((1,), (1,)), 0)]
        self.assertEqual(found, [0, 1, 3, None])


class SmallRoundsTest(unittest.TestCase):
    """Rounds of small books, gone through beat by beat."""

    def each_climber(self, books):
        for book in books:
            for states, movers in starts_and_rounds(book):
                for climber in range(len(book)):
                    yield book, states, climber, goes_of(movers, climber), turns_of(states, climber)

    def test_how_often_from_every_state(self):
        for book, states, climber, goes, turns in self.each_climber(CHOSEN_BOOKS):
            length = len(states)
            for first, state in enumerate(states):
                for many in (0, 1, length // 2, length, 3 * length + 2, FAR):
                    self.assertEqual(goes_many(book, state, climber, many), count_along(goes, first, many), book)
                    self.assertEqual(turns_many(book, state, climber, many), count_along(turns, first, many), book)

    def test_how_often_in_every_small_book(self):
        for book, states, climber, goes, turns in self.each_climber(SMALL_BOOKS):
            length = len(states)
            for first, state in list(enumerate(states))[climber::3]:
                many = (first * 7 + climber * 3) % (3 * length)
                self.assertEqual(goes_many(book, state, climber, many), count_along(goes, first, many), book)
                self.assertEqual(turns_many(book, state, climber, many), count_along(turns, first, many), book)

    def test_every_number_of_beats(self):
        for book in (DUO, TRIO, ALONE, ONE_RUNG, ((3,), (1, 1, 2), (1, 3))):
            for book, states, climber, goes, turns in self.each_climber([book]):
                for many in range(2 * len(states) + 2):
                    self.assertEqual(goes_many(book, states[3 % len(states)], climber, many),
                                     count_along(goes, 3 % len(states), many))
                    self.assertEqual(turns_many(book, states[3 % len(states)], climber, many),
                                     count_along(turns, 3 % len(states), many))

    def test_when_next_from_every_state(self):
        for book, states, climber, goes, turns in self.each_climber(SMALL_BOOKS + CHOSEN_BOOKS):
            for first, state in enumerate(states):
                self.assertEqual(next_go(book, state, climber), next_along(goes, first), book)
                self.assertEqual(next_turn(book, state, climber), next_along(turns, first), book)


class EdgesTest(unittest.TestCase):
    def test_a_whole_round(self):
        for book in CHOSEN_BOOKS:
            for state in states_of(book):
                for climber in range(len(book)):
                    self.assertEqual(goes_many(book, state, climber, round_length(book)), goes_in_round(book, climber))
                self.assertEqual(turns_many(book, state, 0, round_length(book)), 2)

    def test_ladders_of_one_rung(self):
        for book in (((1,),), ONE_RUNG, FLAT):
            for faces in ((1,) * len(book), (-1,) * len(book), ((1, -1) * 10)[: len(book)]):
                state = ((1,) * len(book), faces)
                for climber in range(len(book)):
                    self.assertIsNone(next_go(book, state, climber))
                    self.assertEqual(next_turn(book, state, climber), 0)
                    for many in (0, 1, 2, 7, FAR):
                        self.assertEqual(goes_many(book, state, climber, many), 0)
                        self.assertEqual(turns_many(book, state, climber, many), many)

    def test_some_never_go(self):
        book = ((2,), (1, 1), (3,), (1, 1, 1))
        for state in states_of(book):
            self.assertEqual([next_go(book, state, climber) is None for climber in range(4)],
                             [False, True, False, True])
            self.assertEqual([goes_many(book, state, climber, FAR) for climber in (1, 3)], [0, 0])

    def test_one_climber(self):
        for length in range(2, 13):
            book = ((length,),)
            for rung in range(1, length + 1):
                up, down = ((rung,), (1,)), ((rung,), (-1,))
                self.assertEqual(next_go(book, up, 0), 1 if rung == length else 0)
                self.assertEqual(next_go(book, down, 0), 1 if rung == 1 else 0)
                self.assertEqual([next_turn(book, up, 0), next_turn(book, down, 0)], [length - rung, rung - 1])
                self.assertEqual([goes_many(book, up, 0, 1), turns_many(book, up, 0, 1)],
                                 [0, 1] if rung == length else [1, 0])

    def test_climbers_who_are_not_there(self):
        for book in (DUO, TRIO, ALONE, ONE_RUNG, WIDE, as_lists(TRIO)):
            state = ((1,) * len(book), (1,) * len(book))
            for climber in (-1, -2, -len(book), -len(book) - 1, len(book), len(book) + 1, 99, FAR, -FAR):
                calls = [(goes_many, many) for many in (0, 1, FAR)] + [(turns_many, many) for many in (0, 1, FAR)]
                for call, *many in calls + [(next_go,), (next_turn,)]:
                    with self.assertRaises(NoClimber) as caught:
                        call(book, state, climber, *many)
                    self.assertIs(type(caught.exception), NoClimber)
                    self.assertEqual(caught.exception.climber, climber)


class LimitsTest(unittest.TestCase):
    """20 climbers on ladders of up to 12 rungs, up to 10 ** 60 beats."""

    def some_states(self, book):
        half = round_length(book) // 2
        for number in (-1, half - 1, half // 3, half // 7 + half):
            yield state_at(book, SIGNS, number)

    def test_all_goes_and_turns(self):
        for book in GREAT_BOOKS:
            for state in self.some_states(book):
                for many in (0, 999, FAR):
                    goes = [goes_many(book, state, climber, many) for climber in range(20)]
                    turns = [turns_many(book, state, climber, many) for climber in range(20)]
                    for climber in range(20):
                        self.assertEqual(turns[climber], turns[0] + sum(goes[:climber]))
                    self.assertEqual(turns[0] + sum(goes), many)

    def test_whole_rounds(self):
        for book in GREAT_BOOKS:
            for state in self.some_states(book):
                for climber in (0, 1, 7, 18, 19):
                    for times in (1, 10 ** 30):
                        many = times * round_length(book)
                        self.assertEqual(goes_many(book, state, climber, many), times * goes_in_round(book, climber))
                self.assertEqual(turns_many(book, state, 0, 10 ** 30 * round_length(book)), 2 * 10 ** 30)

    def test_along_with_beats(self):
        for book in GREAT_BOOKS:
            half = round_length(book) // 2
            for first in (-300, half - 300, half // 3, FAR // 13):
                states = beats_along(book, state_at(book, SIGNS, first), 600)
                movers = [mover(book, state) for state in states]
                for climber in (0, 1, 7, 17, 18, 19):
                    for begin, many in ((0, 600), (17, 1), (299, 2), (450, 150)):
                        part = movers[begin:begin + many]
                        turns = [goer for goer in part if goer is None or goer < climber]
                        self.assertEqual(goes_many(book, states[begin], climber, many), part.count(climber))
                        self.assertEqual(turns_many(book, states[begin], climber, many), len(turns))

    def test_two_parts(self):
        for book in GREAT_BOOKS:
            state = state_at(book, SIGNS, FAR // 17)
            for one, other in ((FAR // 2, FAR // 2), (FAR // 3, 12 ** 19 + 5), (7, FAR - 7)):
                between = after(book, state, one)
                for climber in (0, 1, 7, 18, 19):
                    for call in (goes_many, turns_many):
                        parts = call(book, state, climber, one) + call(book, between, climber, other)
                        self.assertEqual(call(book, state, climber, one + other), parts)

    def test_next_go_is_the_least(self):
        for book in GREAT_BOOKS:
            for one in self.some_states(book):
                for state in (one, turned(one)):
                    for climber in range(20):
                        beats = next_go(book, state, climber)
                        self.assertEqual(mover(book, after(book, state, beats)), climber)
                        self.assertEqual(goes_many(book, state, climber, beats), 0)

    def test_next_turn_is_the_least(self):
        for book in GREAT_BOOKS:
            for one in self.some_states(book):
                for state in (one, turned(one)):
                    for climber in range(20):
                        beats = next_turn(book, state, climber)
                        at, then = after(book, state, beats), after(book, state, beats + 1)
                        self.assertEqual(at[1][climber], -then[1][climber])
                        self.assertEqual(turns_many(book, state, climber, beats), 0)

    def test_far_away(self):
        first = ((1,) * 20, (1,) * 20)
        self.assertEqual([next_go(WIDE, first, climber) for climber in (19, 18, 17, 0)], [0, 11, 143, 12 ** 19 - 1])
        self.assertEqual(next_turn(WIDE, first, 0), 12 ** 20 - 1)
        self.assertEqual(goes_many(WIDE, first, 0, 2 * 12 ** 20), 22)
        # When the eldest has gone eleven times, everybody is on rung 12; then they come down one after the other.
        self.assertEqual([next_go(LATE, first, climber) for climber in (0, 19, 18, 2, 1)], [0, 11, 22, 198, 209])

    def test_beyond_the_limits(self):
        book = ((15,),) + ((15,) * 15,) * 24
        state = ((1,) * 25, (1,) * 25)
        self.assertEqual(goes_many(book, state, 24, 15 * 10 ** 80), 14 * 10 ** 80)
        self.assertEqual(turns_many(book, state, 24, 15 * 10 ** 80), 10 ** 80)
        self.assertEqual([next_go(book, state, 0), next_turn(book, state, 1)], [15 ** 24 - 1] * 2)


class ConventionsTest(unittest.TestCase):
    def test_lists_in_place_of_tuples(self):
        for state in states_of(TRIO):
            standing, faces = state
            for book in (as_lists(TRIO), mixed(TRIO), [(3,), [2, 1, 2], (1, 2)], ((3,), (2, 1, 2), [1, 2])):
                for given in (as_lists(state), (list(standing), faces), (standing, list(faces)), [standing, faces]):
                    for climber in range(3):
                        self.assertEqual(goes_many(book, given, climber, 9), goes_many(TRIO, state, climber, 9))
                        self.assertEqual(turns_many(book, given, climber, 9), turns_many(TRIO, state, climber, 9))
                        self.assertEqual(next_go(book, given, climber), next_go(TRIO, state, climber))
                        self.assertEqual(next_turn(book, given, climber), next_turn(TRIO, state, climber))

    def test_arguments_by_name(self):
        self.assertEqual(goes_many(many=3, climber=1, state=LOW, book=DUO), 2)
        self.assertEqual(turns_many(many=8, climber=1, state=LOW, book=DUO), 4)
        self.assertEqual(next_go(climber=1, state=LOW, book=DUO), 1)
        self.assertEqual(next_turn(climber=0, state=LOW, book=DUO), 3)

    def test_arguments_stay_as_they_are(self):
        for state in states_of(TRIO):
            book, given = as_lists(TRIO), as_lists(state)
            for climber in range(3):
                goes_many(book=book, state=given, climber=climber, many=20)
                turns_many(book=book, state=given, climber=climber, many=20)
                next_go(book=book, state=given, climber=climber)
                next_turn(book=book, state=given, climber=climber)
            self.assertRaises(NoClimber, goes_many, book=book, state=given, climber=3, many=1)
            self.assertRaises(NoClimber, next_go, book=book, state=given, climber=-1)
            self.assertEqual((book, given), (as_lists(TRIO), as_lists(state)))

    def test_the_same_query_again(self):
        book, given = as_lists(DUO), as_lists(LOW)
        kept = copy.deepcopy((book, given))
        for turn in range(3):
            self.assertEqual([goes_many(book, given, 1, 3), next_go(book, given, 1), next_turn(book, given, 0)],
                             [2, 1, 3])
        self.assertEqual((book, given), kept)

    def test_returned_values_are_passed_in_again(self):
        first = ((1,) * 20, (1,) * 20)
        many = turns_many(WIDE, first, 19, FAR) ** 3
        self.assertEqual(goes_many(WIDE, first, 19, many) + turns_many(WIDE, first, 19, many), many)


if __name__ == "__main__":
    unittest.main()
