"""Point [10] and the sums of guarantee (e) of [1], with the conventions of [2] as far as they touch sums.py."""

import copy
import fractions
import math
import unittest

from aboutface.beats import beats_along
from aboutface.errors import NoClimber
from aboutface.rounds import after, start, state_at
from aboutface.sums import mean_rung, rung_sum, weight_all, weight_sum
from tests.samples import ALONE, BIG_BOOKS, DUO, FLAT, LOW, ONE_RUNG, SMALL_BOOKS, TRIO, WIDE
from tests.samples import as_lists, mixed, ones_and_rungs, rounds_by_beats, some_weights, standings_of, states_of
from tests.samples import weigh, weighed_from_the_eldest

FAR = 10 ** 60
SIGNS = (-1, -1, 1, 1, 1, -1, 1, -1, -1, -1, 1, -1, 1, 1, -1, 1, 1, 1, -1)


def ones(book):
    return tuple((1,) * max(table) for table in book)


def half_of(book):
    """The number of standings, half of a round."""
    return weighed_from_the_eldest(book, ones(book))


def sum_along(items, first, many):
    """The sum of many items from the first on, around and around."""
    times, rest = divmod(many, len(items))
    return times * sum(items) + sum(items[(first + number) % len(items)] for number in range(rest))


class ExamplesTest(unittest.TestCase):
    def test_weights(self):
        weights = ((1, 1), (1, 2, 3))
        self.assertEqual([weight_all(DUO, weights), weight_sum(DUO, LOW, weights, 3)], [7, 6])

    def test_rungs(self):
        self.assertEqual([rung_sum(DUO, LOW, 0, 8), mean_rung(DUO, 1), mean_rung(DUO, 0)], [14, (7, 4), (7, 4)])


class SmallRoundsTest(unittest.TestCase):
    """Every round of every small book, gone through beat by beat."""

    def test_weight_all(self):
        for book in SMALL_BOOKS:
            for shift in range(9):
                weights = some_weights(book, shift)
                self.assertEqual(weight_all(book, weights), sum(weigh(weights, one) for one in standings_of(book)))
            self.assertEqual(weight_all(book, ones(book)), len(standings_of(book)))

    def test_weight_sum(self):
        for at, book in enumerate(SMALL_BOOKS):
            weights = some_weights(book, at)
            for states in rounds_by_beats(book):
                weighed = [weigh(weights, standing) for standing, faces in states]
                length = len(states)
                for first in range(at % 3, length, 3):
                    for many in (0, 1, 2, length // 2, length // 2 + 1, length - 1, length, length + 3, FAR):
                        wanted = sum_along(weighed, first, many)
                        self.assertEqual(weight_sum(book, states[first], weights, many), wanted, book)

    def test_every_many(self):
        for book in (DUO, TRIO, ALONE, ONE_RUNG, ((2,), (3, 2), (1, 3, 2), (2, 1, 3))):
            weights = some_weights(book, 1)
            for states in rounds_by_beats(book):
                weighed = [weigh(weights, standing) for standing, faces in states]
                first = len(states) // 3
                for many in range(2 * len(states) + 2):
                    self.assertEqual(weight_sum(book, states[first], weights, many), sum_along(weighed, first, many))

    def test_rung_sum(self):
        for at, book in enumerate(SMALL_BOOKS):
            for states in rounds_by_beats(book):
                length = len(states)
                for climber in range(len(book)):
                    rungs = [standing[climber] for standing, faces in states]
                    for first in range(at % 5, length, 5):
                        for many in (0, 1, length // 2 + 1, length - 1, length, FAR + 1):
                            found = rung_sum(book, states[first], climber, many)
                            self.assertEqual(found, sum_along(rungs, first, many), book)

    def test_mean_rung(self):
        for book in SMALL_BOOKS:
            standings = standings_of(book)
            for climber in range(len(book)):
                mean = fractions.Fraction(sum(standing[climber] for standing in standings), len(standings))
                self.assertEqual(mean_rung(book, climber), (mean.numerator, mean.denominator), book)


class EdgesTest(unittest.TestCase):
    def test_the_samples_have_weights_of_all_kinds(self):
        for book in (TRIO, WIDE):
            found = [weight for shift in range(9) for row in some_weights(book, shift) for weight in row]
            self.assertTrue(min(found) < 0 < max(found) and 0 in found)

    def test_no_beats(self):
        for book in (DUO, TRIO, ALONE, ONE_RUNG):
            for state in states_of(book):
                self.assertEqual(weight_sum(book, state, some_weights(book, 2), 0), 0)
                for climber in range(len(book)):
                    self.assertEqual(rung_sum(book, state, climber, 0), 0)

    def test_the_first_standing_is_the_given_one(self):
        for state in states_of(TRIO):
            self.assertEqual(weight_sum(TRIO, state, some_weights(TRIO, 4), 1), weigh(some_weights(TRIO, 4), state[0]))
            self.assertEqual([rung_sum(TRIO, state, climber, 1) for climber in range(3)], list(state[0]))

    def test_weights_of_nothing(self):
        weights = ((0, 0, 0), (0, 0), (0, 0))
        self.assertEqual(weight_all(TRIO, weights), 0)
        self.assertEqual(weight_sum(TRIO, start(TRIO, (1, 1)), weights, FAR), 0)

    def test_one_weight_of_nothing(self):
        weights = ((1, 0, 1), (2, 3), (5, 7))
        self.assertEqual(weight_all(TRIO, weights), 2 * (2 * 5 + 3 * 5 + 3 * 7))
        for states in rounds_by_beats(TRIO):
            weighed = [weigh(weights, standing) for standing, faces in states]
            for many in range(15):
                self.assertEqual(weight_sum(TRIO, states[0], weights, many), sum(weighed[:many]))

    def test_negative_weights(self):
        weights = ((-1000, -1000), (-1, -2, -3))
        self.assertEqual(weight_all(DUO, weights), 7000)
        self.assertEqual(weight_all(DUO, ((1, -1), (1, 1, 1))), -2)
        self.assertEqual(weight_sum(DUO, LOW, ((1, -1), (1, 1, 1)), 3), -1)

    def test_ladders_of_one_rung(self):
        weights = ((2,), (-3,), (5,))
        for state in states_of(ONE_RUNG):
            self.assertEqual(weight_sum(ONE_RUNG, state, weights, 7), -210)
            self.assertEqual([rung_sum(ONE_RUNG, state, climber, FAR) for climber in range(3)], [FAR] * 3)
        self.assertEqual(weight_all(ONE_RUNG, weights), -30)
        self.assertEqual([mean_rung(ONE_RUNG, climber) for climber in range(3)], [(1, 1)] * 3)
        self.assertEqual([mean_rung(FLAT, climber) for climber in range(20)], [(1, 1)] * 20)

    def test_one_climber(self):
        self.assertEqual(weight_all(ALONE, ((3, -1, 0, 7),)), 9)
        found = [weight_sum(ALONE, ((3,), (-1,)), ((3, -1, 0, 7),), many) for many in range(10)]
        self.assertEqual(found, [0, 0, -1, 2, 5, 4, 4, 11, 18, 18])
        self.assertEqual(mean_rung(ALONE, 0), (5, 2))
        self.assertEqual(mean_rung(((5,),), 0), (3, 1))

    def test_lowest_terms(self):
        self.assertEqual(mean_rung(((3,), (3, 3, 3)), 0), (2, 1))
        self.assertEqual(mean_rung(((2,), (2, 2)), 1), (3, 2))
        self.assertEqual(mean_rung(((2,), (4, 2)), 0), (4, 3))

    def test_no_climber(self):
        for book in (DUO, TRIO, ALONE, ONE_RUNG, WIDE, as_lists(TRIO)):
            state = ((1,) * len(book), (1,) * len(book))
            for climber in (-1, -2, -len(book), -len(book) - 1, len(book), len(book) + 1, 99, FAR, -FAR):
                with self.assertRaises(NoClimber) as caught:
                    mean_rung(book, climber)
                self.assertIs(type(caught.exception), NoClimber)
                self.assertEqual(caught.exception.climber, climber)
                for many in (0, 1, FAR):
                    with self.assertRaises(NoClimber) as caught:
                        rung_sum(book, state, climber, many)
                    self.assertIs(type(caught.exception), NoClimber)
                    self.assertEqual(caught.exception.climber, climber)


class LimitsTest(unittest.TestCase):
    """20 climbers on ladders of up to 12 rungs, up to 10 ** 60 beats, weights up to 1000 both ways."""

    def each_weights(self):
        for book in BIG_BOOKS:
            yield book, some_weights(book, 3)
            great = tuple(tuple(1000 - 181 * ((rung * rung + at) % 12) for rung in range(len(row)))
                          for at, row in enumerate(ones(book)))
            self.assertTrue(all(-1000 <= weight <= 1000 for row in great for weight in row))
            yield book, great

    def test_weight_all(self):
        for book, weights in self.each_weights():
            self.assertEqual(weight_all(book, weights), weighed_from_the_eldest(book, weights))
        row = (1000, -999, 3, 0, 5, 7, -1, -1, 2, 1000, -1000, 8)
        self.assertEqual(weight_all(WIDE, (row,) * 20), sum(row) ** 20)
        self.assertEqual(weight_all(WIDE, ((-1000,) * 12,) * 20), 12000 ** 20)

    def test_every_standing_counts_once(self):
        for book in BIG_BOOKS:
            for first in (0, half_of(book) // 3, half_of(book), -1):
                state = state_at(book, SIGNS, first)
                for many in (0, 1, 1000, half_of(book) - 1, half_of(book), half_of(book) + 1, FAR - 1, FAR):
                    self.assertEqual(weight_sum(book, state, ones(book), many), many)

    def test_whole_rounds(self):
        for book, weights in self.each_weights():
            whole = weighed_from_the_eldest(book, weights)
            half = half_of(book)
            self.assertEqual(weight_sum(book, start(book, SIGNS), weights, half), whole)
            for first in (0, 1, half // 7, half - 1, half, half + half // 5):
                state = state_at(book, SIGNS, first)
                self.assertEqual(weight_sum(book, state, weights, 2 * half), 2 * whole)
                self.assertEqual(weight_sum(book, state, weights, 2 * half * 10 ** 30), 2 * whole * 10 ** 30)

    def test_along_with_beats(self):
        for book, weights in self.each_weights():
            half = half_of(book)
            for first in (-500, half - 500, half // 3, FAR // 13, half + half // 7):
                states = beats_along(book, state_at(book, SIGNS, first), 1000)
                weighed = [weigh(weights, standing) for standing, faces in states]
                for begin, many in ((0, 1), (0, 1000), (17, 483), (500, 1), (499, 2), (400, 600)):
                    wanted = sum(weighed[begin:begin + many])
                    self.assertEqual(weight_sum(book, states[begin], weights, many), wanted)

    def test_two_parts(self):
        for book, weights in self.each_weights():
            state = state_at(book, SIGNS, FAR // 17)
            for one, other in ((FAR // 2, FAR // 2), (FAR // 3, 12 ** 19 + 5), (7, FAR - 7)):
                parts = weight_sum(book, state, weights, one)
                parts += weight_sum(book, after(book, state, one), weights, other)
                self.assertEqual(weight_sum(book, state, weights, one + other), parts)

    def test_rung_sum(self):
        for book in BIG_BOOKS:
            half = half_of(book)
            for first in (half - 300, half // 3, -300):
                states = beats_along(book, state_at(book, SIGNS, first), 600)
                for climber in range(20):
                    wanted = sum(standing[climber] for standing, faces in states[:600])
                    self.assertEqual(rung_sum(book, states[0], climber, 600), wanted)
                    weights = ones_and_rungs(book, climber)
                    self.assertEqual(rung_sum(book, states[0], climber, FAR), weight_sum(book, states[0], weights, FAR))

    def test_mean_rung(self):
        self.assertEqual([mean_rung(WIDE, climber) for climber in range(20)], [(13, 2)] * 20)
        for book in BIG_BOOKS:
            for climber in range(20):
                over, under = mean_rung(book, climber)
                total = weighed_from_the_eldest(book, ones_and_rungs(book, climber))
                self.assertEqual(over * half_of(book), under * total)
                self.assertEqual(math.gcd(over, under), 1)
                self.assertGreaterEqual(under, 1)

    def test_beyond_the_limits(self):
        book = ((15,),) + ((15,) * 15,) * 24
        state = start(book, (1, -1) * 12)
        self.assertEqual(weight_all(book, ((5000,) * 15,) * 25), 75000 ** 25)
        self.assertEqual(weight_sum(book, state, ones(book), 10 ** 80), 10 ** 80)
        self.assertEqual(mean_rung(book, 24), (8, 1))


class ConventionsTest(unittest.TestCase):
    def test_lists_in_place_of_tuples(self):
        weights = some_weights(TRIO, 5)
        many_weights = (as_lists(weights), mixed(weights), [weights[0], list(weights[1]), weights[2]],
                        (list(weights[0]), weights[1], list(weights[2])))
        for book in (as_lists(TRIO), mixed(TRIO), [(3,), [2, 1, 2], (1, 2)], ((3,), (2, 1, 2), [1, 2])):
            for climber in range(3):
                self.assertEqual(mean_rung(book, climber), mean_rung(TRIO, climber))
                self.assertIs(type(mean_rung(book, climber)), tuple)
            for other in many_weights:
                self.assertEqual(weight_all(book, other), weight_all(TRIO, weights))
                self.assertEqual(weight_all(TRIO, other), weight_all(TRIO, weights))
            for state in states_of(TRIO):
                for given in (as_lists(state), (list(state[0]), state[1]), [state[0], list(state[1])]):
                    self.assertEqual(rung_sum(book, given, 1, 9), rung_sum(TRIO, state, 1, 9))
                    for other in many_weights:
                        self.assertEqual(weight_sum(book, given, other, 9), weight_sum(TRIO, state, weights, 9))

    def test_arguments_by_name(self):
        weights = ((1, 1), (1, 2, 3))
        self.assertEqual(weight_all(weights=weights, book=DUO), 7)
        self.assertEqual(weight_sum(many=3, weights=weights, state=LOW, book=DUO), 6)
        self.assertEqual(rung_sum(many=8, climber=0, state=LOW, book=DUO), 14)
        self.assertEqual(mean_rung(climber=1, book=DUO), (7, 4))

    def test_arguments_stay_as_they_are(self):
        for state in states_of(TRIO):
            book, given, weights = as_lists(TRIO), as_lists(state), as_lists(some_weights(TRIO))
            kept = copy.deepcopy((book, given, weights))
            weight_all(book=book, weights=weights)
            weight_sum(book=book, state=given, weights=weights, many=20)
            rung_sum(book=book, state=given, climber=2, many=20)
            mean_rung(book=book, climber=1)
            self.assertRaises(NoClimber, rung_sum, book=book, state=given, climber=3, many=1)
            self.assertRaises(NoClimber, mean_rung, book=book, climber=-1)
            self.assertEqual((book, given, weights), kept)

    def test_the_same_query_again(self):
        for turn in range(3):
            self.assertEqual(weight_sum(DUO, LOW, ((1, 1), (1, 2, 3)), 3), 6)
            self.assertEqual(mean_rung(DUO, 1), (7, 4))


if __name__ == "__main__":
    unittest.main()
