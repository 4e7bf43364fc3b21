"""Point [6], with the conventions of [2] as far as they touch counts.py."""

import copy
import unittest

from aboutface.beats import mover
from aboutface.books import is_standing
from aboutface.counts import goes_in_round, round_length, rounds_many, standing_at, standing_number, standings_many
from aboutface.errors import NoClimber, NoNumber
from tests.samples import ALONE, BIG_BOOKS, DUO, FLAT, ODD_LADDERS, ONE_RUNG, SMALL_BOOKS, TRIO, UNEVEN, WIDE
from tests.samples import as_lists, mixed, rounds_by_beats, standings_of, weighed_from_the_eldest

FAR = 10 ** 60


def many_from_the_eldest(book):
    """The number of standings, counted in the other direction than the package counts."""
    return weighed_from_the_eldest(book, [[1] * max(table) for table in book])


class ExamplesTest(unittest.TestCase):
    def test_how_many(self):
        told = [standings_many(DUO), round_length(DUO), rounds_many(DUO), standings_many(TRIO), rounds_many(TRIO)]
        self.assertEqual(told, [4, 8, 2, 7, 4])

    def test_numbers(self):
        self.assertEqual([standing_at(DUO, 3), standing_number(TRIO, (3, 1, 1))], [(2, 3), 4])

    def test_no_number(self):
        with self.assertRaises(NoNumber) as caught:
            standing_at(DUO, 4)
        self.assertEqual(caught.exception.number, 4)

    def test_goes_in_round(self):
        self.assertEqual([goes_in_round(DUO, 0), goes_in_round(DUO, 1)], [2, 4])


class HowManyTest(unittest.TestCase):
    def test_against_the_listed_standings(self):
        for book in SMALL_BOOKS:
            many = len(standings_of(book))
            self.assertEqual(standings_many(book), many, book)
            self.assertEqual(round_length(book), 2 * many, book)

    def test_against_the_rounds_gone_through(self):
        for book in SMALL_BOOKS:
            found = rounds_by_beats(book)
            self.assertEqual(rounds_many(book), len(found), book)
            self.assertEqual({len(states) for states in found}, {round_length(book)}, book)

    def test_one_climber(self):
        for length in range(1, 13):
            book = ((length,),)
            self.assertEqual([standings_many(book), round_length(book), rounds_many(book)], [length, 2 * length, 1])

    def test_ladders_of_one_rung(self):
        self.assertEqual([standings_many(ONE_RUNG), round_length(ONE_RUNG), rounds_many(ONE_RUNG)], [1, 2, 4])
        self.assertEqual([standings_many(FLAT), round_length(FLAT), rounds_many(FLAT)], [1, 2, 2 ** 19])

    def test_at_the_limits(self):
        self.assertEqual(standings_many(WIDE), 12 ** 20)
        for book in BIG_BOOKS:
            self.assertEqual(standings_many(book), many_from_the_eldest(book))
            self.assertEqual(round_length(book), 2 * many_from_the_eldest(book))
            self.assertEqual(rounds_many(book), 2 ** 19)

    def test_beyond_the_limits(self):
        book = ((15,),) + ((15,) * 15,) * 29
        self.assertEqual([standings_many(book), rounds_many(book)], [15 ** 30, 2 ** 29])


class NumbersTest(unittest.TestCase):
    def test_against_the_listed_standings(self):
        for book in SMALL_BOOKS:
            listed = sorted(standings_of(book))
            self.assertEqual([standing_at(book, number) for number in range(len(listed))], listed, book)
            self.assertEqual([standing_number(book, standing) for standing in listed], list(range(len(listed))), book)

    def test_numbers_outside(self):
        for book in [DUO, TRIO, ALONE, ONE_RUNG, FLAT, *BIG_BOOKS]:
            many = many_from_the_eldest(book)
            for number in (-1, -2, -many, -many - 1, many, many + 1, 2 * many, -FAR, FAR, -(10 ** 5000), 10 ** 5000):
                with self.assertRaises(NoNumber) as caught:
                    standing_at(book, number)
                self.assertIs(type(caught.exception), NoNumber)
                self.assertEqual(caught.exception.number, number)

    def test_digits_at_the_limits(self):
        for number in (0, 1, 11, 12, 143, 12 ** 19, 12 ** 20 - 1, 3 * 12 ** 18 + 7 * 12 ** 5 + 2, 10 ** 21 + 9):
            digits = tuple(number // 12 ** (19 - climber) % 12 + 1 for climber in range(20))
            self.assertEqual(standing_at(WIDE, number), digits)
            self.assertEqual(standing_number(WIDE, digits), number)

    def test_there_and_back_at_the_limits(self):
        for book in BIG_BOOKS:
            many = many_from_the_eldest(book)
            numbers = sorted({0, 1, many // 3, many // 2, many - 2, many - 1, *(FAR // k % many for k in range(2, 40))})
            standings = [standing_at(book, number) for number in numbers]
            self.assertTrue(all(is_standing(book, standing) for standing in standings))
            self.assertEqual(sorted(set(standings)), standings)
            self.assertEqual([standing_number(book, standing) for standing in standings], numbers)

    def test_first_and_last_at_the_limits(self):
        for book in BIG_BOOKS:
            last = [book[0][0]]
            for table in book[1:]:
                last.append(table[last[-1] - 1])
            self.assertEqual(standing_at(book, 0), (1,) * 20)
            self.assertEqual(standing_at(book, many_from_the_eldest(book) - 1), tuple(last))

    def test_neighbours_at_the_limits(self):
        for number in range(many_from_the_eldest(UNEVEN) // 7, many_from_the_eldest(UNEVEN) // 7 + 200):
            standing, follower = standing_at(UNEVEN, number), standing_at(UNEVEN, number + 1)
            self.assertLess(standing, follower)
            changed = [climber for climber in range(20) if standing[climber] != follower[climber]][0]
            self.assertEqual(follower[changed], standing[changed] + 1)
            self.assertEqual(set(follower[changed + 1:]) | {1}, {1})


class GoesInRoundTest(unittest.TestCase):
    def test_against_the_rounds_gone_through(self):
        for book in SMALL_BOOKS:
            for states in rounds_by_beats(book):
                goers = [mover(book, state) for state in states]
                for climber in range(len(book)):
                    self.assertEqual(goes_in_round(book, climber), goers.count(climber), book)

    def test_ladders_of_one_rung(self):
        self.assertEqual([goes_in_round(ONE_RUNG, climber) for climber in range(3)], [0, 0, 0])
        self.assertEqual([goes_in_round(((1,), (3,), (1, 1, 1)), climber) for climber in range(3)], [0, 4, 0])

    def test_at_the_limits(self):
        for climber in range(20):
            beats = 2 * 12 ** climber
            self.assertEqual(goes_in_round(WIDE, climber), 11 * beats)
        for book in BIG_BOOKS:
            goes = sum(goes_in_round(book, climber) for climber in range(20))
            self.assertEqual(goes, 2 * many_from_the_eldest(book) - 2)

    def test_the_younger_do_not_matter(self):
        for climber in range(20):
            part = ODD_LADDERS[: climber + 1]
            self.assertEqual(goes_in_round(ODD_LADDERS, climber), goes_in_round(part, climber))

    def test_no_climber(self):
        for book in (DUO, TRIO, ALONE, ONE_RUNG, WIDE, as_lists(TRIO)):
            many = len(book)
            for climber in (-1, -2, -many, -many - 1, many, many + 1, 99, FAR, -FAR):
                with self.assertRaises(NoClimber) as caught:
                    goes_in_round(book, climber)
                self.assertIs(type(caught.exception), NoClimber)
                self.assertEqual(caught.exception.climber, climber)


class ConventionsTest(unittest.TestCase):
    def test_lists_in_place_of_tuples(self):
        for book in (as_lists(TRIO), mixed(TRIO), [(3,), [2, 1, 2], (1, 2)], ((3,), (2, 1, 2), [1, 2])):
            self.assertEqual([standings_many(book), round_length(book), rounds_many(book)], [7, 14, 4])
            for number, standing in enumerate(standings_of(TRIO)):
                self.assertEqual(standing_number(book, list(standing)), number)
                self.assertEqual(standing_number(book, standing), number)
                self.assertEqual(standing_number(TRIO, list(standing)), number)
                self.assertEqual(standing_at(book, number), standing)
                self.assertIs(type(standing_at(book, number)), tuple)
            for climber in range(3):
                self.assertEqual(goes_in_round(book, climber), goes_in_round(TRIO, climber))
            self.assertRaises(NoNumber, standing_at, book, 7)

    def test_arguments_by_name(self):
        self.assertEqual(standings_many(book=DUO), 4)
        self.assertEqual(round_length(book=DUO), 8)
        self.assertEqual(rounds_many(book=DUO), 2)
        self.assertEqual(standing_at(number=3, book=DUO), (2, 3))
        self.assertEqual(standing_number(standing=(2, 3), book=DUO), 3)
        self.assertEqual(goes_in_round(climber=1, book=DUO), 4)

    def test_arguments_stay_as_they_are(self):
        for standing in standings_of(TRIO):
            book, given = as_lists(TRIO), list(standing)
            kept = copy.deepcopy((book, given))
            standings_many(book=book)
            round_length(book=book)
            rounds_many(book=book)
            standing_at(book=book, number=2)
            standing_number(book=book, standing=given)
            goes_in_round(book=book, climber=1)
            self.assertRaises(NoNumber, standing_at, book=book, number=7)
            self.assertRaises(NoClimber, goes_in_round, book=book, climber=3)
            self.assertEqual((book, given), kept)

    def test_integers_are_returned(self):
        for told in (
            standings_many(ALONE), round_length(ALONE), rounds_many(ALONE), standing_number(ALONE, (1,)),
            goes_in_round(ALONE, 0), standing_number(FLAT, (1,) * 20), rounds_many(FLAT),
        ):
            self.assertIs(type(told), int)


if __name__ == "__main__":
    unittest.main()
