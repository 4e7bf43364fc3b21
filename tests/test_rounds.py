"""Point [7] and the guarantees (a), (b), (c) of [1], with the conventions of [2] as far as they touch rounds.py."""

import copy
import itertools
import unittest

from aboutface.beats import beat, beats_along, before, turned
from aboutface.books import is_state
from aboutface.errors import OtherRound
from aboutface.rounds import after, clock, distance, faces_at, is_signs, signs_of, start, state_at
from tests.samples import ALONE, BIG_BOOKS, DUO, FLAT, HIGH, LOW, ODD_VALUES, ONE_RUNG, SMALL_BOOKS, TRIO, WIDE
from tests.samples import as_lists, mixed, rounds_by_beats, standings_of, states_of, weighed_from_the_eldest

FAR = 10 ** 60
SOME_SIGNS = (
    (1,) * 19, (-1,) * 19, (1, -1) * 9 + (1,), (-1, -1, 1, 1, 1, -1, 1, -1, -1, -1, 1, -1, 1, 1, -1, 1, 1, 1, -1),
)


def half_of(book):
    """The number of standings, half of a round."""
    return weighed_from_the_eldest(book, [[1] * max(table) for table in book])


def signs_by_beats(states):
    """The signs by the words of [7]: the faces of the younger climbers in the start."""
    return states[0][1][1:]


def wide_state(signs, number):
    """The state of WIDE at a clock in the first half, by the digits of the clock to the base 12."""
    rungs, faces = [], []
    for climber, sign in enumerate((1,) + signs):
        older_clock = number // 12 ** (20 - climber)
        digit = number // 12 ** (19 - climber) % 12
        face = sign * (-1) ** older_clock
        faces.append(face)
        rungs.append(digit + 1 if face == 1 else 12 - digit)
    return tuple(rungs), tuple(faces)


class ExamplesTest(unittest.TestCase):
    def test_signs_and_starts(self):
        told = [signs_of(DUO, LOW), signs_of(DUO, ((2, 1), (1, 1))), start(DUO, (-1,)), start(TRIO, (-1, 1))]
        self.assertEqual(told, [(1,), (-1,), ((1, 1), (1, -1)), ((1, 2, 1), (1, -1, 1))])

    def test_is_signs_and_faces_at(self):
        told = [is_signs(DUO, (1,)), faces_at(DUO, (1,), (2, 2)), faces_at(DUO, (-1,), (2, 2))]
        self.assertEqual(told, [True, (1, -1), (1, 1)])

    def test_clock_and_state_at(self):
        told = [clock(DUO, HIGH), clock(DUO, turned(HIGH)), state_at(DUO, (1,), 3), state_at(DUO, (1,), -1)]
        self.assertEqual(told, [1, 6, ((2, 1), (1, -1)), ((1, 1), (-1, -1))])

    def test_after(self):
        told = [after(DUO, LOW, 8), after(DUO, LOW, 2), after(DUO, LOW, -(10 ** 60))]
        self.assertEqual(told, [((1, 1), (1, 1)), ((2, 2), (1, -1)), ((1, 1), (1, 1))])

    def test_distance(self):
        self.assertEqual([distance(DUO, LOW, HIGH), distance(DUO, HIGH, LOW), distance(DUO, LOW, LOW)], [1, 7, 0])

    def test_other_round(self):
        with self.assertRaises(OtherRound) as caught:
            distance(DUO, LOW, ((2, 3), (1, 1)))
        self.assertEqual(caught.exception.climber, 1)


class SmallRoundsTest(unittest.TestCase):
    """Every round of every small book, gone through beat by beat."""

    def each_round(self):
        for book in SMALL_BOOKS:
            for states in rounds_by_beats(book):
                yield book, signs_by_beats(states), states

    def test_all_standings_come_by_twice_with_opposite_faces(self):
        for book, signs, states in self.each_round():
            half = len(standings_of(book))
            self.assertEqual(len(set(states)), 2 * half)
            self.assertEqual({state[0] for state in states[:half]}, set(standings_of(book)))
            self.assertEqual([turned(state) for state in states[half:]], list(states[:half])[::-1])

    def test_each_tuple_of_signs_is_of_one_round(self):
        for book in SMALL_BOOKS:
            found = sorted(signs_by_beats(states) for states in rounds_by_beats(book))
            self.assertEqual(found, sorted(itertools.product((1, -1), repeat=len(book) - 1)), book)

    def test_signs_of(self):
        for book, signs, states in self.each_round():
            self.assertEqual({signs_of(book, state) for state in states}, {signs}, book)

    def test_start(self):
        for book, signs, states in self.each_round():
            self.assertEqual(start(book, signs), states[0], book)

    def test_clock(self):
        for book, signs, states in self.each_round():
            self.assertEqual([clock(book, state) for state in states], list(range(len(states))), book)

    def test_faces_at(self):
        for book, signs, states in self.each_round():
            for standing, faces in states:
                if faces[0] == 1:
                    self.assertEqual(faces_at(book, signs, standing), faces, book)

    def test_state_at(self):
        for book, signs, states in self.each_round():
            many = len(states)
            found = [state_at(book, signs, number) for number in range(-many - 1, 2 * many + 1)]
            self.assertEqual(found, [states[number % many] for number in range(-many - 1, 2 * many + 1)], book)

    def test_state_at_far_numbers(self):
        for book, signs, states in self.each_round():
            many = len(states)
            for number in (FAR, -FAR, FAR - 1, 1 - FAR, 7 * many, -7 * many, 7 * many - 1, -7 * many - 1):
                self.assertEqual(state_at(book, signs, number), states[number % many], book)

    def test_after(self):
        for book, signs, states in self.each_round():
            many = len(states)
            for number in range(0, many, 3):
                for beats in (0, 1, -1, 2, -2, many // 2, many - 1, many, -many, many + 1, 5 - 3 * many, FAR, -FAR):
                    self.assertEqual(after(book, states[number], beats), states[(number + beats) % many], book)

    def test_after_one_beat(self):
        for book, signs, states in self.each_round():
            for state in states:
                self.assertEqual(after(book, state, 1), beat(book, state))
                self.assertEqual(after(book, state, -1), before(book, state))

    def test_distance_in_a_round(self):
        for book, signs, states in self.each_round():
            many = len(states)
            for one in range(0, many, 4):
                found = [distance(book, states[one], other) for other in states]
                self.assertEqual(found, [(number - one) % many for number in range(many)], book)

    def test_distance_between_rounds(self):
        for book in SMALL_BOOKS:
            for first, second in itertools.permutations(rounds_by_beats(book), 2):
                pairs = zip(signs_by_beats(first), signs_by_beats(second))
                eldest = [at + 1 for at, (sign, other) in enumerate(pairs) if sign != other][0]
                for one, other in ((first[0], second[0]), (first[-1], second[len(second) // 3]), (first[1], second[-2])):
                    with self.assertRaises(OtherRound) as caught:
                        distance(book, one, other)
                    self.assertIs(type(caught.exception), OtherRound)
                    self.assertEqual(caught.exception.climber, eldest)


class EdgesTest(unittest.TestCase):
    def test_one_climber_has_no_signs(self):
        for length in range(1, 13):
            book = ((length,),)
            states = [((rung,), (1,)) for rung in range(1, length + 1)]
            states += [((rung,), (-1,)) for rung in range(length, 0, -1)]
            self.assertEqual(start(book, ()), states[0])
            for number, state in enumerate(states):
                self.assertEqual(signs_of(book, state), ())
                self.assertEqual(clock(book, state), number)
                self.assertEqual(state_at(book, (), number), state)
                self.assertEqual(state_at(book, (), number - 6 * length), state)
                self.assertEqual(faces_at(book, (), state[0]), (1,))
                self.assertEqual(distance(book, states[0], state), number)

    def test_ladders_of_one_rung(self):
        for book in (((1,),), ONE_RUNG, FLAT):
            for signs in ((1,) * (len(book) - 1), (-1, 1) * (len(book) // 2), (-1,) * (len(book) - 1)):
                signs = signs[: len(book) - 1]
                first = ((1,) * len(book), (1,) + signs)
                self.assertEqual(start(book, signs), first)
                self.assertEqual([clock(book, first), clock(book, turned(first))], [0, 1])
                self.assertEqual([signs_of(book, first), signs_of(book, turned(first))], [signs, signs])
                self.assertEqual(faces_at(book, signs, first[0]), first[1])
                self.assertEqual([after(book, first, many) for many in (FAR, FAR + 1, -FAR)],
                                 [first, turned(first), first])
                self.assertEqual(distance(book, turned(first), first), 1)

    def test_a_start_is_at_the_ends(self):
        for signs in SOME_SIGNS:
            for book in BIG_BOOKS:
                standing, faces = start(book, signs)
                self.assertEqual(faces, (1,) + signs)
                for climber in range(20):
                    length = book[climber][standing[climber - 1] - 1] if climber else book[0][0]
                    self.assertEqual(standing[climber], 1 if faces[climber] == 1 else length)


class LimitsTest(unittest.TestCase):
    """20 climbers on ladders of up to 12 rungs, numbers up to 10 ** 60 in both directions."""

    def test_digits(self):
        half = 12 ** 20
        numbers = [0, 1, 11, 12, 12 ** 19 - 1, 12 ** 19, half - 1, *(FAR // k % half for k in range(3, 20))]
        for signs in SOME_SIGNS:
            for number in numbers:
                state = wide_state(signs, number)
                self.assertEqual(state_at(WIDE, signs, number), state)
                self.assertEqual(state_at(WIDE, signs, -1 - number), turned(state))
                self.assertEqual(clock(WIDE, state), number)
                self.assertEqual(clock(WIDE, turned(state)), 2 * half - 1 - number)
                self.assertEqual(signs_of(WIDE, state), signs)
                self.assertEqual(signs_of(WIDE, turned(state)), signs)
                self.assertEqual(faces_at(WIDE, signs, state[0]), state[1])

    def test_far_numbers(self):
        for book in BIG_BOOKS:
            many = 2 * half_of(book)
            for signs in SOME_SIGNS:
                for number in (FAR, -FAR, FAR - 1, 1 - FAR, FAR // 7, -FAR // 11, many, -many, many - 1, many // 2):
                    state = state_at(book, signs, number)
                    self.assertTrue(is_state(book, state))
                    self.assertEqual(clock(book, state), number % many)
                    self.assertEqual(signs_of(book, state), signs)
                    self.assertEqual(after(book, start(book, signs), number), state)
                    self.assertEqual(after(book, state, -number), start(book, signs))
                    self.assertEqual(distance(book, start(book, signs), state), number % many)
                    self.assertEqual(distance(book, state, start(book, signs)), -number % many)
                    self.assertEqual(state_at(book, signs, number + 1), beat(book, state))
                    self.assertEqual(state_at(book, signs, number - 1), before(book, state))

    def test_along_with_beats(self):
        for book in BIG_BOOKS:
            half = half_of(book)
            for signs in SOME_SIGNS[1:3]:
                for first in (-500, half - 500, half // 3, FAR // 13):
                    states = beats_along(book, state_at(book, signs, first), 1000)
                    for number in range(0, 1001, 59):
                        self.assertEqual(state_at(book, signs, first + number), states[number])
                        self.assertEqual(clock(book, states[number]), (first + number) % (2 * half))
                        self.assertEqual(after(book, states[number], -number), states[0])

    def test_opposite_halves(self):
        for book in BIG_BOOKS:
            half = half_of(book)
            for number in (0, 5, half // 9, half - 1, FAR):
                one = state_at(book, SOME_SIGNS[3], number)
                other = state_at(book, SOME_SIGNS[3], 2 * half - 1 - number)
                self.assertEqual(turned(one), other)

    def test_other_round(self):
        for book in BIG_BOOKS:
            for climber in range(1, 20):
                signs = list(SOME_SIGNS[3])
                signs[climber - 1] *= -1
                if climber < 19:
                    signs[18] *= -1
                one, other = state_at(book, SOME_SIGNS[3], FAR), state_at(book, signs, -FAR)
                for pair in ((one, other), (other, one)):
                    with self.assertRaises(OtherRound) as caught:
                        distance(book, *pair)
                    self.assertEqual(caught.exception.climber, climber)

    def test_beyond_the_limits(self):
        book = ((15,),) + ((15,) * 15,) * 24
        first = start(book, (1, -1) * 12)
        self.assertEqual(after(book, after(book, first, 10 ** 80), -(10 ** 80)), first)
        self.assertEqual(clock(book, after(book, first, 10 ** 80)), 10 ** 80 % (2 * 15 ** 25))


class IsSignsTest(unittest.TestCase):
    def test_signs(self):
        for book in (ALONE, DUO, TRIO, ONE_RUNG, ((1,),) * 5):
            for signs in itertools.product((1, -1), repeat=len(book) - 1):
                self.assertIs(is_signs(book, signs), True)
                self.assertIs(is_signs(as_lists(book), signs), True)
        for signs in SOME_SIGNS:
            self.assertIs(is_signs(WIDE, signs), True)

    def test_another_size(self):
        for book in (ALONE, DUO, TRIO, WIDE):
            for many in range(25):
                for item in (1, -1):
                    self.assertIs(is_signs(book, (item,) * many), many == len(book) - 1)

    def test_lists_are_not_accepted(self):
        self.assertIs(is_signs(ALONE, []), False)
        self.assertIs(is_signs(DUO, [1]), False)
        self.assertIs(is_signs(DUO, ([1],)), False)
        self.assertIs(is_signs(DUO, ((1,),)), False)
        self.assertIs(is_signs(TRIO, [1, -1]), False)

    def test_odd_values(self):
        for value in ODD_VALUES:
            for book in (ALONE, DUO, TRIO):
                self.assertIs(is_signs(book, value), value == () and type(value) is tuple and book == ALONE, value)

    def test_odd_items(self):
        for item in (0, 2, -2, True, False, None, "1", "-1", "", (), (1,), [], [1], 10 ** 100, -(10 ** 5000)):
            self.assertIs(is_signs(DUO, (item,)), False, type(item))
            self.assertIs(is_signs(TRIO, (item, 1)), False, type(item))
            self.assertIs(is_signs(TRIO, (-1, item)), False, type(item))
            self.assertIs(is_signs(TRIO, item), False, type(item))

    def test_strings_of_the_right_length(self):
        self.assertIs(is_signs(ALONE, ""), False)
        self.assertIs(is_signs(DUO, "1"), False)
        self.assertIs(is_signs(TRIO, "11"), False)

    def test_great_values(self):
        self.assertIs(is_signs(TRIO, (1,) * 100000), False)
        self.assertIs(is_signs(((1,),) * 300, (1,) * 299), True)
        self.assertIs(is_signs(TRIO, (((((((1,),),),),),), 1)), False)


def is_pair_of_tuples(state):
    return type(state) is tuple and [type(part) for part in state] == [tuple, tuple]


class ConventionsTest(unittest.TestCase):
    def test_lists_in_place_of_tuples(self):
        other = state_at(TRIO, (1, -1), 5)
        for state in states_of(TRIO):
            standing, faces = state
            signs = signs_of(TRIO, state)
            for book in (as_lists(TRIO), mixed(TRIO), [(3,), [2, 1, 2], (1, 2)], ((3,), (2, 1, 2), [1, 2])):
                for given in (as_lists(state), (list(standing), faces), (standing, list(faces)), [standing, faces]):
                    self.assertEqual(signs_of(book, given), signs)
                    self.assertEqual(clock(book, given), clock(TRIO, state))
                    self.assertEqual(after(book, given, 4), after(TRIO, state, 4))
                    self.assertEqual(distance(book, given, state), 0)
                    self.assertEqual(distance(book, turned(state), given), distance(TRIO, turned(state), state))
                    if signs != (1, -1):
                        self.assertRaises(OtherRound, distance, book, given, as_lists(other))
                self.assertEqual(start(book, list(signs)), start(TRIO, signs))
                self.assertEqual(state_at(book, list(signs), 9), state_at(TRIO, signs, 9))
                self.assertEqual(faces_at(book, list(signs), list(standing)), faces_at(TRIO, signs, standing))
                self.assertEqual(faces_at(book, signs, list(standing)), faces_at(TRIO, signs, standing))

    def test_tuples_are_returned_for_lists(self):
        for state in states_of(TRIO):
            book, given, signs = as_lists(TRIO), as_lists(state), list(signs_of(TRIO, state))
            returned = [start(book, signs)]
            returned += [state_at(book, signs, number) for number in range(-15, 16)]
            returned += [after(book, given, many) for many in range(-15, 16)]
            self.assertTrue(all(is_pair_of_tuples(one) for one in returned), returned)
            self.assertIs(type(signs_of(book, given)), tuple)
            self.assertIs(type(faces_at(book, signs, given[0])), tuple)
        self.assertIs(type(signs_of([[4]], [[2], [-1]])), tuple)

    def test_arguments_by_name(self):
        self.assertEqual(signs_of(state=LOW, book=DUO), (1,))
        self.assertEqual(start(signs=(-1,), book=DUO), ((1, 1), (1, -1)))
        self.assertEqual(is_signs(value=(1,), book=DUO), True)
        self.assertEqual(faces_at(standing=(2, 2), signs=(1,), book=DUO), (1, -1))
        self.assertEqual(clock(state=HIGH, book=DUO), 1)
        self.assertEqual(state_at(number=3, signs=(1,), book=DUO), ((2, 1), (1, -1)))
        self.assertEqual(after(many=2, state=LOW, book=DUO), ((2, 2), (1, -1)))
        self.assertEqual(distance(other=HIGH, one=LOW, book=DUO), 1)

    def test_arguments_stay_as_they_are(self):
        for state in states_of(TRIO):
            book, given, signs, other = as_lists(TRIO), as_lists(state), [-1, 1], as_lists(turned(state))
            kept = copy.deepcopy((book, given, signs, other))
            signs_of(book=book, state=given)
            start(book=book, signs=signs)
            is_signs(book=book, value=signs)
            faces_at(book=book, signs=signs, standing=given[0])
            clock(book=book, state=given)
            state_at(book=book, signs=signs, number=-4)
            after(book=book, state=given, many=9)
            distance(book=book, one=given, other=other)
            self.assertEqual((book, given, signs, other), kept)

    def test_a_later_change_of_an_argument(self):
        book, given, signs = as_lists(DUO), as_lists(LOW), [1]
        returned = [after(book, given, 0), signs_of(book, given), state_at(book, signs, 0), start(book, signs)]
        kept = copy.deepcopy(returned)
        book[1][1], given[0][0], given[1][0], signs[0] = 2, 2, -1, -1
        self.assertEqual(returned, kept)

    def test_returned_values_are_passed_in_again(self):
        many = distance(WIDE, start(WIDE, SOME_SIGNS[0]), state_at(WIDE, SOME_SIGNS[0], -1))
        self.assertEqual(many, 2 * 12 ** 20 - 1)
        self.assertEqual(state_at(WIDE, SOME_SIGNS[0], many), state_at(WIDE, SOME_SIGNS[0], -1))
        # In a round of many + 1 beats, many beats on is one beat back.
        self.assertEqual(after(WIDE, start(WIDE, SOME_SIGNS[0]), many ** 4), state_at(WIDE, SOME_SIGNS[0], 1))


if __name__ == "__main__":
    unittest.main()
