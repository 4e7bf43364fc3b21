"""Point [9] and the wishes of guarantee (e) of [1], with the conventions of [2] as far as they touch wishes.py."""

import copy
import itertools
import unittest

from aboutface.beats import beats_along, turned
from aboutface.counts import round_length, standings_many
from aboutface.rounds import after, distance, start, state_at
from aboutface.wishes import met_at, met_in, met_many
from tests.samples import ALONE, BIG_BOOKS, CHOSEN_BOOKS, DUO, FLAT, LATE, LOW, ONE_RUNG, SMALL_BOOKS, TRIO, WIDE
from tests.samples import as_lists, count_along, mixed, rounds_by_beats, standings_of, states_of

FAR = 10 ** 60
SIGNS = (1, -1, 1, 1, -1, -1, -1, 1, -1, 1, -1, -1, 1, -1, 1, 1, 1, -1, -1)
GREAT_BOOKS = BIG_BOOKS + (LATE,)


def meets(standing, wish):
    """Tell, by the words of [9], whether the standing meets the wish."""
    return all(item is None or item == rung for item, rung in zip(wish, standing))


def wishes_of(book):
    """All wishes of a book with rungs from -1 to one more than any ladder has."""
    return list(itertools.product(*[(None, *range(-1, max(table) + 2)) for table in book]))


def some_wishes(book):
    """Wishes of every kind, few for each book: for each climber alone, for two, for all, and never met."""
    nothing = (None,) * len(book)
    wishes = [nothing]
    for climber, table in enumerate(book):
        for rung in (1, 2, max(table), max(table) + 1, 0, -1):
            wishes.append(nothing[:climber] + (rung,) + nothing[climber + 1:])
    standings = standings_of(book)
    wishes += [standings[0], standings[-1], standings[len(standings) // 2]]
    wishes.append(nothing[:-1] + (standings[-1][-1],))
    wishes.append(standings[-1][:1] + nothing[1:])
    return sorted(set(wishes), key=repr)


def times_along(met, first, many):
    """After how many beats from the first on a wish is met, for the first many times."""
    if not any(met):
        return [None] * many
    found = []
    beats = 0
    while len(found) < many:
        if met[(first + beats) % len(met)]:
            found.append(beats)
        beats += 1
    return found


class ExamplesTest(unittest.TestCase):
    def test_how_often(self):
        found = [met_many(DUO, (2, None)), met_in(DUO, LOW, (2, None), 8), met_in(DUO, LOW, (None, 1), 4)]
        self.assertEqual(found, [3, 6, 2])

    def test_when(self):
        found = [met_at(DUO, LOW, (2, 1), 0), met_at(DUO, LOW, (2, 1), 1), met_at(DUO, LOW, (1, 2), 0)]
        self.assertEqual(found, [3, 4, None])


class SmallRoundsTest(unittest.TestCase):
    """Rounds of small books, gone through beat by beat."""

    def each_round(self, books):
        for book in books:
            for wish in some_wishes(book):
                for states in rounds_by_beats(book):
                    yield book, wish, states, [meets(standing, wish) for standing, faces in states]

    def test_met_many(self):
        for book in SMALL_BOOKS:
            for wish in some_wishes(book):
                wanted = sum(meets(standing, wish) for standing in standings_of(book))
                self.assertEqual(met_many(book, wish), wanted, (book, wish))

    def test_every_wish(self):
        for book in (DUO, TRIO, ALONE, ONE_RUNG, ((3,), (1, 3, 1))):
            standings = standings_of(book)
            for wish in wishes_of(book):
                self.assertEqual(met_many(book, wish), sum(meets(one, wish) for one in standings), wish)
                for states in rounds_by_beats(book)[:2]:
                    met = [meets(standing, wish) for standing, faces in states]
                    first = len(states) // 3
                    self.assertEqual(met_at(book, states[first], wish, 0), times_along(met, first, 1)[0], wish)
                    for many in (5, len(states) + 2):
                        self.assertEqual(met_in(book, states[first], wish, many), count_along(met, first, many), wish)

    def test_met_in_from_every_state(self):
        for at, (book, wish, states, met) in enumerate(self.each_round(CHOSEN_BOOKS)):
            length = len(states)
            manys = (0, 1, length // 2, length - 1, length, length + 1, 3 * length + 2, FAR)
            for first, state in enumerate(states):
                for many in (manys[(at + first) % 8], manys[(at + 3 * first + 1) % 8]):
                    self.assertEqual(met_in(book, state, wish, many), count_along(met, first, many), (book, wish))

    def test_met_at_from_every_state(self):
        for at, (book, wish, states, met) in enumerate(self.each_round(CHOSEN_BOOKS)):
            for first, state in enumerate(states):
                # The first times, and one beyond a round.
                numbers = (0, 1 + (at + first) % 3, 2 * sum(met) + first % 5)
                wanted = times_along(met, first, max(numbers) + 1)
                for number in numbers:
                    self.assertEqual(met_at(book, state, wish, number), wanted[number], (book, wish))

    def test_met_at_in_every_small_book(self):
        for at, (book, wish, states, met) in enumerate(self.each_round(SMALL_BOOKS[::3])):
            first = at % len(states)
            number = at % 7
            wanted = times_along(met, first, number + 1)[number]
            self.assertEqual(met_at(book, states[first], wish, number), wanted, (book, wish))

    def test_great_numbers(self):
        for at, (book, wish, states, met) in enumerate(self.each_round(CHOSEN_BOOKS)):
            first = at % len(states)
            if any(met):
                for number in (sum(met) - 1, sum(met), 5 * sum(met), FAR, FAR + 1):
                    times, rest = divmod(number, sum(met))
                    wanted = times * len(states) + times_along(met, first, rest + 1)[rest]
                    self.assertEqual(met_at(book, states[first], wish, number), wanted, (book, wish))
            else:
                self.assertIsNone(met_at(book, states[first], wish, FAR))

    def test_every_number(self):
        for book in (DUO, TRIO, ((3,), (1, 1, 2), (1, 3))):
            for book, wish, states, met in self.each_round([book]):
                found = [met_at(book, states[2], wish, number) for number in range(3 * len(states))]
                self.assertEqual(found, times_along(met, 2, 3 * len(states)))


class EdgesTest(unittest.TestCase):
    def test_the_wish_of_nothing(self):
        for book in CHOSEN_BOOKS + [WIDE, LATE, FLAT]:
            nothing = (None,) * len(book)
            first = ((1,) * len(book), (-1,) * len(book))
            self.assertEqual(met_many(book, nothing), standings_many(book))
            for many in (0, 1, 2, 999, FAR):
                self.assertEqual(met_in(book, first, nothing, many), many)
                self.assertEqual(met_at(book, first, nothing, many), many)

    def test_wishes_that_are_never_met(self):
        wishes = ((0, None, None), (-1, None, None), (4, None, None), (None, 3, None), (None, None, 0), (None, 0, 1),
                  (2, 2, None), (None, 1, 2), (3, 2, 3), (FAR, None, None), (None, -FAR, None), (1, 1, 10 ** 5000))
        for wish in wishes:
            self.assertEqual(met_many(TRIO, wish), 0)
            for state in states_of(TRIO)[::5]:
                for many in (0, 1, 14, FAR):
                    self.assertEqual(met_in(TRIO, state, wish, many), 0)
                    self.assertIsNone(met_at(TRIO, state, wish, many))

    def test_the_present_standing(self):
        for book in CHOSEN_BOOKS:
            for state in states_of(book):
                self.assertEqual(met_at(book, state, state[0], 0), 0)
                self.assertEqual(met_in(book, state, state[0], 1), 1)
                self.assertEqual(met_in(book, state, state[0], 0), 0)
                self.assertEqual(met_many(book, state[0]), 1)
                # All standings come by twice in a round, with opposite faces.
                self.assertEqual(met_at(book, state, state[0], 1), distance(book, state, turned(state)))
                self.assertEqual(met_at(book, state, state[0], 2), round_length(book))

    def test_ladders_of_one_rung(self):
        for book in (((1,),), ONE_RUNG, FLAT):
            state = ((1,) * len(book), (-1,) * len(book))
            for wish in ((1,) * len(book), (None,) * (len(book) - 1) + (1,)):
                self.assertEqual(met_many(book, wish), 1)
                for many in (0, 1, 2, 5, FAR):
                    self.assertEqual(met_in(book, state, wish, many), many)
                    self.assertEqual(met_at(book, state, wish, many), many)
            self.assertIsNone(met_at(book, state, (2,) + (None,) * (len(book) - 1), 0))

    def test_one_climber(self):
        for rung in range(1, 5):
            self.assertEqual(met_many(ALONE, (rung,)), 1)
            found = [met_at(ALONE, ((1,), (1,)), (rung,), number) for number in range(3)]
            self.assertEqual(found, [rung - 1, 8 - rung, 7 + rung])
            self.assertEqual(met_in(ALONE, ((1,), (1,)), (rung,), 8), 2)


class LimitsTest(unittest.TestCase):
    """20 climbers on ladders of up to 12 rungs, numbers up to 10 ** 60."""

    def great_wishes(self, book):
        nothing = [None] * 20
        yield tuple(nothing)
        for climber, rung in ((0, 6), (1, 1), (9, 3), (18, 11), (19, 1), (19, 12)):
            yield tuple(rung if at == climber else None for at in range(20))
        yield state_at(book, SIGNS, FAR // 7)[0]
        yield state_at(book, SIGNS, FAR // 7)[0][:10] + (None,) * 10
        yield (None,) * 10 + state_at(book, SIGNS, FAR // 7)[0][10:]
        yield (None, 13) + (None,) * 18

    def test_met_many(self):
        self.assertEqual(met_many(WIDE, (None,) * 20), 12 ** 20)
        self.assertEqual(met_many(WIDE, (5,) + (None,) * 18 + (12,)), 12 ** 18)
        for book in GREAT_BOOKS:
            for climber in range(20):
                wishes = [tuple(rung if at == climber else None for at in range(20)) for rung in range(-1, 14)]
                self.assertEqual(sum(met_many(book, wish) for wish in wishes), standings_many(book))

    def test_whole_rounds(self):
        for book in GREAT_BOOKS:
            for wish in self.great_wishes(book):
                for first in (0, -1, FAR // 3):
                    state = state_at(book, SIGNS, first)
                    for times in (1, 2, 10 ** 30):
                        found = met_in(book, state, wish, times * round_length(book))
                        self.assertEqual(found, 2 * times * met_many(book, wish))

    def test_along_with_beats(self):
        for book in GREAT_BOOKS:
            half = standings_many(book)
            for wish in self.great_wishes(book):
                for first in (-300, half - 300, FAR // 13):
                    states = beats_along(book, state_at(book, SIGNS, first), 600)
                    times = [at for at, (standing, faces) in enumerate(states[:600]) if meets(standing, wish)]
                    self.assertEqual(met_in(book, states[0], wish, 600), len(times))
                    for number in list(range(len(times)))[::97]:
                        self.assertEqual(met_at(book, states[0], wish, number), times[number])

    def test_met_at_and_met_in(self):
        for book in GREAT_BOOKS:
            for wish in self.great_wishes(book):
                state = state_at(book, SIGNS, FAR // 19)
                for number in (0, 1, 10 ** 20, FAR):
                    beats = met_at(book, state, wish, number)
                    if met_many(book, wish) == 0:
                        self.assertIsNone(beats)
                        continue
                    self.assertTrue(meets(after(book, state, beats)[0], wish))
                    self.assertEqual(met_in(book, state, wish, beats), number)

    def test_the_wish_of_one_standing(self):
        for book in GREAT_BOOKS:
            one = state_at(book, SIGNS, FAR // 7)
            state = start(book, SIGNS)
            way = sorted((distance(book, state, one), distance(book, state, turned(one))))
            for number in (0, 1, 2, 3, FAR, FAR + 1):
                wanted = number // 2 * round_length(book) + way[number % 2]
                self.assertEqual(met_at(book, state, one[0], number), wanted)

    def test_beyond_the_limits(self):
        book = ((15,),) + ((15,) * 15,) * 24
        state = ((1,) * 25, (1,) * 25)
        self.assertEqual(met_in(book, state, (None,) * 24 + (15,), 15 * 10 ** 80), 10 ** 80)
        self.assertEqual(met_at(book, state, (15,) + (None,) * 24, 0), 14 * 15 ** 24)
        self.assertEqual(met_at(book, state, (None,) * 25, 10 ** 80), 10 ** 80)


class ConventionsTest(unittest.TestCase):
    def test_lists_in_place_of_tuples(self):
        wish = (None, 2, None)
        for state in states_of(TRIO):
            standing, faces = state
            wanted = [met_many(TRIO, wish), met_in(TRIO, state, wish, 9), met_at(TRIO, state, wish, 3)]
            for book in (as_lists(TRIO), mixed(TRIO), [(3,), [2, 1, 2], (1, 2)], ((3,), (2, 1, 2), [1, 2]), TRIO):
                for given in (as_lists(state), (list(standing), faces), (standing, list(faces)), [standing, faces]):
                    for wished in (wish, list(wish)):
                        found = [met_many(book, wished), met_in(book, given, wished, 9), met_at(book, given, wished, 3)]
                        self.assertEqual(found, wanted)

    def test_arguments_by_name(self):
        self.assertEqual(met_many(wish=(2, None), book=DUO), 3)
        self.assertEqual(met_in(many=4, wish=(None, 1), state=LOW, book=DUO), 2)
        self.assertEqual(met_at(number=1, wish=(2, 1), state=LOW, book=DUO), 4)

    def test_arguments_stay_as_they_are(self):
        for state in states_of(TRIO):
            book, given, wish = as_lists(TRIO), as_lists(state), [3, None, 1]
            kept = copy.deepcopy((book, given, wish))
            met_many(book=book, wish=wish)
            met_in(book=book, state=given, wish=wish, many=20)
            met_at(book=book, state=given, wish=wish, number=7)
            self.assertEqual((book, given, wish), kept)

    def test_the_same_query_again(self):
        for turn in range(3):
            self.assertEqual([met_in(DUO, LOW, (None, 1), 4), met_at(DUO, LOW, (2, 1), 1)], [2, 4])

    def test_returned_values_are_passed_in_again(self):
        first = ((1,) * 20, (1,) * 20)
        beats = met_at(WIDE, first, (7,) + (None,) * 19, FAR)
        self.assertGreater(beats, FAR)
        self.assertEqual(met_in(WIDE, first, (7,) + (None,) * 19, beats), FAR)
        self.assertEqual(met_at(WIDE, first, (None,) * 20, beats ** 3), beats ** 3)


if __name__ == "__main__":
    unittest.main()
