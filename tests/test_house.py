"""Points [13] and [14] and guarantee (f) of [1], with the conventions of [2] as far as they touch house.py."""

import copy
import itertools
import random
import unittest

from aboutface.beats import beat, before, turned
from aboutface.books import is_state
from aboutface.counts import standings_many
from aboutface.errors import BadDeed, BadTable, Full, Last, NoDeed, NotStanding
from aboutface.house import House
from aboutface.rounds import after, clock, signs_of
from tests.samples import ALONE, BIG_BOOKS, CHOSEN_BOOKS, DUO, FLAT, HIGH, LATE, LOW, ONE_RUNG, TRIO, WIDE
from tests.samples import as_lists, mixed, states_of

FAR = 10 ** 60


def told(house):
    """All that the queries of a house answer, except what belongs to its deeds."""
    return [house.book(), house.state(), house.clock(), house.signs(), len(house), repr(house)]


def all_told(house):
    """All that the queries of a house answer."""
    return told(house) + [house.deeds(), house.log()] + [told(house.as_of(many)) for many in range(house.deeds() + 1)]


class HouseTest(unittest.TestCase):
    def check_as_new(self, house):
        """(f): the house answers as a new house in the same state."""
        new = House(house.book(), house.state())
        self.assertEqual(told(house), told(new))
        self.assertTrue(house == new and new == house)
        self.assertTrue(is_state(house.book(), house.state()))

    def check_raised(self, error, values, call, *given, **named):
        """The call raises exactly this error with these values."""
        with self.assertRaises(error) as caught:
            call(*given, **named)
        self.assertIs(type(caught.exception), error)
        self.assertEqual(vars(caught.exception), values)

    def check_refused(self, house, error, values, name, *given):
        """The deed raises this error and changes nothing."""
        kept = all_told(house)
        self.check_raised(error, values, getattr(house, name), *given)
        self.assertEqual(all_told(house), kept)


class ExamplesTest(HouseTest):
    def test_beat(self):
        self.assertEqual([House(DUO).beat(), House(DUO).beat(3), House(DUO).beat(-1)], [(2, 3), (2, 1), (1, 1)])

    def test_turn_and_place(self):
        self.assertEqual([House(DUO).turn(), House(DUO).place((2, 2))], [7, 2])
        self.check_raised(NotStanding, {}, House(DUO).place, (1, 2))

    def test_come_and_leave(self):
        self.assertEqual([House(DUO).come((1, 1, 2)), House(DUO).leave()], [3, 1])
        self.check_raised(Last, {}, House(((2,),)).leave)

    def test_do(self):
        self.assertEqual(House(DUO).do([("beat", 2), ("turn",), ("leave",)]), [(2, 2), 5, 2])
        self.check_raised(BadDeed, {"at": 1}, House(DUO).do, [("beat",), ("leave", 1)])

    def test_queries(self):
        found = [repr(House(DUO)), len(House(DUO)), House(DUO) == House([[2], [1, 3]])]
        self.assertEqual(found, ["House(2 climbers, 4 standings)", 2, True])


class NewHouseTest(HouseTest):
    def test_without_a_state(self):
        for book in CHOSEN_BOOKS + [WIDE, LATE, FLAT]:
            for house in (House(book), House(book, None), House(book=book), House(book=book, state=None)):
                self.assertEqual(house.book(), book)
                self.assertEqual(house.state(), ((1,) * len(book), (1,) * len(book)))
                self.assertEqual([house.deeds(), house.log()], [0, []])

    def test_with_a_state(self):
        for book in CHOSEN_BOOKS:
            for state in states_of(book):
                for house in (House(book, state), House(state=state, book=book)):
                    self.assertEqual(told(house)[:4], [book, state, clock(book, state), signs_of(book, state)])
                    self.assertEqual([house.deeds(), house.log(), len(house)], [0, [], len(book)])

    def test_tuples_for_lists(self):
        state = ((3, 2, 1), (1, -1, 1))
        for book in (as_lists(TRIO), mixed(TRIO), [(3,), [2, 1, 2], (1, 2)]):
            for given in (as_lists(state), mixed(state), (list(state[0]), state[1])):
                house = House(book, given)
                self.assertEqual([house.book(), house.state()], [TRIO, state])
                self.assertEqual([type(row) for row in (house.book(), *house.book())], [tuple] * 4)
                self.assertEqual([type(row) for row in (house.state(), *house.state())], [tuple] * 3)

    def test_lists_that_are_changed_afterwards(self):
        book, state = as_lists(TRIO), [[3, 2, 1], [1, -1, 1]]
        house = House(book, state)
        kept = all_told(house)
        book[1][1] = 2
        book.append([1, 1])
        state[0][0], state[1][0] = 1, -1
        state[0].append(1)
        self.assertEqual(all_told(house), kept)
        self.assertEqual([house.book(), house.state()], [TRIO, ((3, 2, 1), (1, -1, 1))])

    def test_arguments_stay_as_they_are(self):
        book, state, standing, table = as_lists(TRIO), [[3, 2, 1], [1, -1, 1]], [2, 1, 1], [3, 1]
        deeds = [("place", [1, 1, 1]), ("come", [2, 2], -1), ("leave",)]
        kept = copy.deepcopy((book, state, standing, table, deeds))
        house = House(book, state)
        house.beat(5)
        house.place(standing)
        house.come(table)
        house.leave()
        house.do(deeds)
        house.do(deeds, whole=False)
        self.assertEqual((book, state, standing, table, deeds), kept)


class DeedsTest(HouseTest):
    def test_beat(self):
        for book in CHOSEN_BOOKS:
            for state in states_of(book):
                house = House(book, state)
                self.assertEqual(house.beat(), beat(book, state)[0])
                self.assertEqual(house.state(), beat(book, state))
                for many in (0, 1, 2, -1, -3, 7, 100, FAR, -FAR, 1 - FAR):
                    one, other = House(book, state), House(book, state)
                    self.assertEqual(one.beat(many), after(book, state, many)[0])
                    self.assertEqual(other.beat(many=many), after(book, state, many)[0])
                    self.assertEqual([one.state(), other.state()], [after(book, state, many)] * 2)
                    self.assertEqual([one.deeds(), one.book(), one.log()], [1, book, []])

    def test_beats_back_and_forth(self):
        for book in BIG_BOOKS + (LATE, FLAT):
            house = House(book, ((1,) * 20, (1, -1) * 10))
            first = house.state()
            for many in (FAR, -FAR, FAR - 1, 1, -FAR, -1, 1 - FAR, FAR):
                house.beat(many)
                self.check_as_new(house)
            # The numbers of beats add up to 0.
            self.assertEqual(house.state(), first)
            self.assertEqual(house.deeds(), 8)
        house = House(TRIO)
        house.beat(-1)
        self.assertEqual(house.state(), before(TRIO, House(TRIO).state()))

    def test_turn(self):
        for book in CHOSEN_BOOKS:
            for state in states_of(book):
                house = House(book, state)
                self.assertEqual(house.turn(), clock(book, turned(state)))
                self.assertEqual([house.book(), house.state(), house.deeds()], [book, turned(state), 1])
                self.assertEqual(house.turn(), clock(book, state))
                self.assertEqual([house.state(), house.deeds()], [state, 2])

    def test_place(self):
        for book in (DUO, TRIO, ALONE, ONE_RUNG, ((3,), (1, 1, 3))):
            states = states_of(book)
            for state, (standing, faces) in itertools.product(states[::2], states):
                for given in (standing, list(standing)):
                    house = House(book, state)
                    then = (standing, state[1])
                    self.assertEqual(house.place(given), clock(book, then))
                    self.assertEqual([house.book(), house.state(), house.deeds()], [book, then, 1])
                    self.assertIs(type(house.state()[0]), tuple)
        house = House(DUO)
        self.assertEqual([house.place(standing=(2, 2)), house.state()], [2, ((2, 2), (1, 1))])

    def test_place_without_a_standing(self):
        wrong = ((), (1,), (1, 2), (0, 1), (-1, 1), (3, 1), (2, 4), (2, 0), (2, -1), (1, 1, 1), (2, 3, 1), (FAR, 1),
                 (1, -FAR), (2, 10 ** 5000))
        for given in wrong:
            self.check_refused(House(DUO, HIGH), NotStanding, {}, "place", given)
            self.check_refused(House(DUO), NotStanding, {}, "place", list(given))
        self.check_refused(House(ALONE), NotStanding, {}, "place", (5,))
        self.check_refused(House(WIDE), NotStanding, {}, "place", (12,) * 19 + (13,))

    def test_come(self):
        for book in (DUO, TRIO, ALONE, ONE_RUNG):
            table = tuple(3 + at % 2 for at in range(max(book[-1])))
            for standing, faces in states_of(book):
                for given, face in itertools.product((table, list(table)), (1, -1)):
                    one, other = House(book, (standing, faces)), House(book, (standing, faces))
                    self.assertEqual(one.come(given, face), len(book) + 1)
                    self.assertEqual(other.come(face=face, table=given), len(book) + 1)
                    self.assertEqual(one.book(), book + (table,))
                    self.assertEqual(one.state(), (standing + (1,), faces + (face,)))
                    self.assertEqual([one.deeds(), len(one), one == other], [1, len(book) + 1, True])
                    self.assertIs(type(one.book()[-1]), tuple)
                house = House(book, (standing, faces))
                self.assertEqual(house.come(table), len(book) + 1)
                self.assertEqual(house.state(), (standing + (1,), faces + (1,)))

    def test_come_with_a_bad_table(self):
        for book in (DUO, TRIO, ALONE, ONE_RUNG, WIDE):
            wanted = max(book[-1])
            for items in (0, wanted - 1, wanted + 1, wanted + 5):
                for face in ((), (1,), (-1,)):
                    self.check_refused(House(book), BadTable, {"climber": len(book)}, "come", (2,) * items, *face)
                    self.check_refused(House(book), BadTable, {"climber": len(book)}, "come", [2] * items, *face)

    def test_twenty_climbers_and_one_more(self):
        house = House(ALONE)
        self.assertEqual([house.come((2,) * 4)] + [house.come((1, 2)) for climber in range(18)], list(range(2, 21)))
        self.check_refused(house, Full, {"many": 20}, "come", (1, 2))
        self.check_refused(house, Full, {"many": 20}, "come", (1, 2), -1)
        # A table that does not fit is mentioned first.
        self.check_refused(house, BadTable, {"climber": 20}, "come", (1, 2, 3))
        self.check_refused(house, BadTable, {"climber": 20}, "come", ())
        self.assertEqual([house.leave(), house.come((2, 2), -1), len(house)], [1, 20, 20])
        self.check_refused(house, Full, {"many": 20}, "come", (1, 2))
        self.check_as_new(house)

    def test_more_than_twenty_climbers(self):
        house = House(((1,),) * 23)
        self.assertEqual(len(house), 23)
        self.check_refused(house, Full, {"many": 20}, "come", (1,))
        self.check_refused(house, BadTable, {"climber": 23}, "come", (1, 1))
        self.assertEqual([house.leave() for climber in range(4)], [1, 1, 1, 1])
        self.assertEqual(house.come((1,)), 20)

    def test_leave(self):
        for book in (DUO, TRIO, ONE_RUNG, ((3,), (1, 1, 2), (1, 3), (1, 1, 2))):
            for standing, faces in states_of(book):
                house = House(book, (standing, faces))
                self.assertEqual(house.leave(), standing[-1])
                self.assertEqual(told(house)[:2], [book[:-1], (standing[:-1], faces[:-1])])
                self.assertEqual([house.deeds(), len(house)], [1, len(book) - 1])
                self.check_as_new(house)

    def test_the_last_one_does_not_leave(self):
        for length in (1, 2, 12):
            for face in (1, -1):
                self.check_refused(House(((length,),), ((length,), (face,))), Last, {}, "leave")
        house = House(TRIO)
        self.assertEqual([house.leave(), house.leave()], [1, 1])
        self.check_refused(house, Last, {}, "leave")
        self.check_as_new(house)


SOME_DEEDS = (("beat",), ("beat", 3), ("beat", -FAR), ("turn",), ("place", (2, 1, 1)), ("come", (2, 2)),
              ("come", (1, 3), -1), ("leave",))
IDLE_DEEDS = (("beat", 0), ("beat", 14), ("beat", -14 * 10 ** 50), ("place", (3, 2, 1)))


class UndoTest(HouseTest):
    def test_nothing_to_undo(self):
        house = House(TRIO)
        kept = all_told(house)
        self.assertIs(house.undo(), False)
        self.assertIs(house.undo(), False)
        self.assertEqual(all_told(house), kept)

    def test_each_deed(self):
        for name, *given in SOME_DEEDS + IDLE_DEEDS:
            house = House(TRIO, ((3, 2, 1), (1, -1, 1)))
            kept = all_told(house)
            getattr(house, name)(*given)
            self.assertEqual(house.deeds(), 1)
            self.check_as_new(house)
            self.assertIs(house.undo(), True)
            self.assertEqual(all_told(house), kept)
            self.assertIs(house.undo(), False)

    def test_deeds_that_changed_nothing(self):
        house = House(TRIO, ((3, 2, 1), (1, -1, 1)))
        kept = told(house)
        for name, *given in IDLE_DEEDS:
            getattr(house, name)(*given)
            self.assertEqual(told(house), kept)
        self.assertEqual(house.deeds(), 4)
        self.assertEqual([house.undo() for deed in range(5)], [True, True, True, True, False])

    def test_two_deeds(self):
        for one, other in itertools.permutations(SOME_DEEDS[:6], 2):
            house = House(TRIO, ((3, 2, 1), (1, -1, 1)))
            seen = [told(house)]
            for name, *given in (one, other):
                # What fits three climbers does not fit four.
                if name in ("place", "come") and len(house) == 4:
                    continue
                getattr(house, name)(*given)
                seen.append(told(house))
            while len(seen) > 1:
                self.assertEqual(told(house), seen.pop())
                self.assertIs(house.undo(), True)
            self.assertEqual(told(house), seen[0])
            self.assertIs(house.undo(), False)

    def test_refused_deeds_are_not_undone(self):
        house = House(DUO)
        house.beat()
        self.assertRaises(NotStanding, house.place, (1, 2))
        self.assertRaises(BadTable, house.come, ())
        self.assertEqual(house.deeds(), 1)
        self.assertIs(house.undo(), True)
        self.assertEqual(house.state(), LOW)

    def test_sixty_deeds(self):
        house = House(TRIO)
        seen = []
        for deed in range(60):
            seen.append(house.state())
            house.beat(deed - 25) if deed % 3 else house.turn()
        self.assertEqual(house.deeds(), 60)
        for state in reversed(seen):
            self.assertIs(house.undo(), True)
            self.assertEqual(house.state(), state)
        self.assertIs(house.undo(), False)


# Each is no deed: not a tuple, no name of a deed, or a wrong number of arguments.
NO_DEEDS = (
    None, True, 0, 1, -FAR, "", "beat", "turn", [], (), [()], ["turn"], ["beat", 1], ["place", (1, 1)], [("turn",)],
    ("",), ("Beat",), ("beat ",), (" turn",), ("undo",), ("do", []), ("do",), ("state",), ("book",), ("clock",),
    ("log",), ("twin",), ("as_of", 0), ("deeds",), ("signs",), ("__len__",), ("__init__", DUO), ("past",), ("in", 1),
    (None,), (True,), (0,), (1, "beat"), ((),), ([],), (["beat"],), (("beat",),), (("turn",), ("turn",)), (("beat", 1), 1),
    (None, 1), ({},), (set(),), (b"turn",), (House(DUO),), House(DUO), {}, {"beat": 1}, b"turn",
    ("beat", 1, 1), ("beat", 1, 2, 3), ("turn", 1), ("turn", None), ("place",), ("place", (1, 1), 1), ("come",),
    ("come", (1, 1, 1), 1, 1), ("leave", 1), ("leave", ()), ("leave", None, None),
)


class DoTest(HouseTest):
    def test_results(self):
        for whole in ({}, {"whole": True}, {"whole": False}):
            house = House(DUO)
            deeds = [("beat",), ("beat", 2), ("beat", -1), ("turn",), ("place", (2, 2)), ("come", (1, 2, 1)),
                     ("come", [4, 1], -1), ("leave",), ("place", [2, 2, 2])]
            results = house.do(deeds, **whole)
            other = House(DUO)
            wanted = [other.beat(), other.beat(2), other.beat(-1), other.turn(), other.place((2, 2)),
                      other.come((1, 2, 1)), other.come((4, 1), -1), other.leave(), other.place((2, 2, 2))]
            self.assertEqual(results, wanted)
            self.assertIs(type(results), list)
            self.assertEqual(told(house), told(other))
            self.assertEqual(house.deeds(), 9)
            self.assertEqual(house.log(), [("in", 9), "beat", "beat", "beat", "turn", "place", "come", "come",
                                           "leave", "place", ("out", 9)])
            self.assertEqual(other.log(), [])

    def test_each_deed_is_undone_separately(self):
        house, other = House(DUO), House(DUO)
        house.do([("beat", 3), ("turn",), ("beat", 0), ("leave",), ("come", (1, 1))])
        seen = [told(other)]
        for name, *given in (("beat", 3), ("turn",), ("beat", 0), ("leave",), ("come", (1, 1))):
            getattr(other, name)(*given)
            seen.append(told(other))
        self.assertEqual([told(house.as_of(many)) for many in range(6)], seen)
        while len(seen) > 1:
            self.assertEqual(told(house), seen.pop())
            self.assertIs(house.undo(), True)
        self.assertEqual(told(house), seen[0])
        self.assertEqual(house.log(), [("in", 5), "beat", "turn", "beat", "leave", "come", ("out", 5)])

    def test_no_items(self):
        for deeds in ([], ()):
            for whole in (True, False):
                house = House(DUO)
                self.assertEqual(house.do(deeds, whole=whole), [])
                self.assertEqual([house.deeds(), house.log()], [0, [("in", 0), ("out", 0)]])

    def test_a_tuple_in_place_of_the_list(self):
        house = House(DUO)
        self.assertEqual(house.do((("beat",), ("turn",))), [(2, 3), 6])
        self.assertEqual(house.do(deeds=(("turn",),)), [1])
        self.assertEqual(house.log(), [("in", 2), "beat", "turn", ("out", 2), ("in", 1), "turn", ("out", 1)])

    def test_whole_is_passed_by_name(self):
        house = House(DUO)
        self.assertRaises(TypeError, house.do, [("beat",)], False)
        self.assertEqual([house.deeds(), house.log()], [0, []])
        self.assertEqual(house.do(whole=False, deeds=[("beat",)]), [(2, 3)])

    def test_bad_deeds(self):
        for item in NO_DEEDS:
            for at in range(4):
                for whole in ({}, {"whole": True}, {"whole": False}):
                    house = House(DUO, HIGH)
                    house.beat(2)
                    kept = all_told(house)
                    deeds = [("beat",), ("turn",), ("place", (1, 1))]
                    deeds.insert(at, item)
                    self.check_raised(BadDeed, {"at": at}, house.do, deeds, **whole)
                    self.check_raised(BadDeed, {"at": at}, house.do, tuple(deeds), **whole)
                    self.assertEqual(all_told(house), kept)

    def test_the_first_bad_deed(self):
        house = House(DUO)
        self.check_raised(BadDeed, {"at": 1}, house.do, [("turn",), None, ("turn", 1), []])
        # Before anything is done: also before a deed that would be refused.
        self.check_raised(BadDeed, {"at": 2}, house.do, [("place", (1, 2)), ("leave",), ("nothing",)], whole=False)
        self.assertEqual([house.deeds(), house.log(), house.state()], [0, [], LOW])

    def test_errors_at_each_place(self):
        bad = ((NotStanding, {}, ("place", (1, 2))), (NotStanding, {}, ("place", ())),
               (BadTable, {"climber": 2}, ("come", (1,))), (BadTable, {"climber": 2}, ("come", [], -1)))
        for error, values, item in bad:
            for at in range(4):
                for whole in (True, False):
                    self.check_failed_do(error, values, item, at, whole)

    def check_failed_do(self, error, values, item, at, whole):
        deeds = [("beat", 2), ("turn",), ("beat",)]
        names = ["beat", "turn", "beat"][:at]
        house, other = House(DUO, HIGH), House(DUO, HIGH)
        for one in (house, other):
            one.beat(4)
            one.do([("turn",)])
        if not whole:
            for name, *given in deeds[:at]:
                getattr(other, name)(*given)
        self.check_raised(error, values, house.do, deeds[:at] + [item] + deeds[at:], whole=whole)
        self.assertEqual(told(house), told(other))
        self.assertEqual(house.deeds(), other.deeds())
        self.assertEqual(house.log(), other.log() + [("in", 4), *names, ("out", at)])
        self.check_as_new(house)
        while other.undo():
            self.assertIs(house.undo(), True)
            self.assertEqual(told(house), told(other))
        self.assertIs(house.undo(), False)

    def test_whole_is_the_default(self):
        house = House(DUO)
        self.check_raised(NotStanding, {}, house.do, [("beat",), ("place", (9, 9)), ("beat",)])
        self.assertEqual([house.state(), house.deeds()], [LOW, 0])
        self.assertEqual(house.log(), [("in", 3), "beat", ("out", 1)])

    def test_last_and_full_in_a_do(self):
        house = House(TRIO)
        self.check_raised(Last, {}, house.do, [("leave",)] * 4)
        self.assertEqual([len(house), house.deeds()], [3, 0])
        self.check_raised(Last, {}, house.do, [("leave",)] * 4, whole=False)
        self.assertEqual([len(house), house.deeds()], [1, 2])
        self.assertEqual(house.log(), [("in", 4), "leave", "leave", ("out", 2)] * 2)
        house = House(((1,),) * 18)
        self.check_raised(Full, {"many": 20}, house.do, [("come", (1,))] * 12)
        self.assertEqual([len(house), house.deeds()], [18, 0])
        self.check_raised(Full, {"many": 20}, house.do, [("come", (1,), -1)] * 12, whole=False)
        self.assertEqual([len(house), house.deeds()], [20, 2])
        self.assertEqual(house.log(), [("in", 12), "come", "come", ("out", 2)] * 2)
        self.assertEqual(house.state(), ((1,) * 20, (1,) * 18 + (-1, -1)))

    def test_an_error_takes_back_only_the_deeds_of_this_do(self):
        house = House(TRIO)
        house.do([("beat", 5), ("turn",)])
        house.beat(2)
        kept = told(house)
        self.check_raised(NotStanding, {}, house.do, [("leave",), ("beat", 3), ("place", (1, 1, 1))])
        self.assertEqual(told(house), kept)
        self.assertEqual(house.deeds(), 3)
        self.assertEqual([house.undo() for deed in range(4)], [True, True, True, False])

    def test_lists_that_are_changed_afterwards(self):
        standing, table = [2, 2], [1, 2, 1]
        deeds = [("place", standing), ("come", table)]
        house = House(DUO)
        results = house.do(deeds)
        kept = all_told(house)
        standing[0], table[1] = 1, 9
        deeds.clear()
        results.append(1)
        self.assertEqual(all_told(house), kept)


class QueriesTest(HouseTest):
    def test_clock_and_signs(self):
        for book in CHOSEN_BOOKS:
            for state in states_of(book):
                house = House(book, state)
                self.assertEqual([house.clock(), house.signs()], [clock(book, state), signs_of(book, state)])
        house = House(ALONE)
        self.assertEqual([house.clock(), house.signs()], [0, ()])

    def test_deeds(self):
        house = House(TRIO)
        found = [house.deeds()]
        for name, *given in SOME_DEEDS[:6]:
            getattr(house, name)(*given)
            found.append(house.deeds())
        house.undo()
        house.undo()
        found.append(house.deeds())
        house.turn()
        found.append(house.deeds())
        self.assertEqual(found, [0, 1, 2, 3, 4, 5, 6, 4, 5])

    def test_as_of_every_number(self):
        house = House(TRIO)
        seen = [told(house)]
        for name, *given in SOME_DEEDS[:6]:
            getattr(house, name)(*given)
            seen.append(told(house))
        house.do([("leave",)])
        kept = all_told(house)
        for many in range(7):
            other = house.as_of(many)
            self.assertIs(type(other), House)
            self.assertEqual([told(other), other.deeds(), other.log()], [seen[many], many, []])
            self.check_as_new(other)
            while other.undo():
                self.assertEqual(told(other), seen[other.deeds()])
            self.assertEqual(told(other), seen[0])
        self.assertEqual(all_told(house), kept)
        self.assertEqual(told(house.as_of(many=3)), seen[3])

    def test_as_of_other_numbers(self):
        house = House(TRIO)
        for deeds in range(3):
            for many in (-1, -2, -deeds - 1, deeds + 1, deeds + 2, 99, FAR, -FAR, 10 ** 5000):
                self.check_raised(NoDeed, {"many": many}, house.as_of, many)
            self.assertEqual([house.deeds(), house.as_of(deeds) == house], [deeds, True])
            house.beat()
        house.undo()
        self.check_raised(NoDeed, {"many": 3}, house.as_of, 3)

    def test_houses_that_go_on_by_themselves(self):
        for make in (lambda house: house.twin(), lambda house: house.as_of(2), lambda house: house.as_of(0)):
            house = House(TRIO)
            house.do([("beat", 3), ("turn",), ("place", (3, 2, 2))])
            other = make(house)
            kept = all_told(house)
            other.do([("leave",), ("beat", 5)])
            other.undo()
            other.undo()
            other.undo()
            other.come((1,) * max(other.book()[-1]))
            self.assertEqual(all_told(house), kept)
            other = make(house)
            kept = all_told(other)
            house.do([("leave",), ("beat", 5)])
            while house.undo():
                pass
            house.come((3, 1))
            self.assertEqual(all_told(other), kept)

    def test_twin(self):
        house = House(TRIO)
        house.do([("beat", 3), ("turn",), ("leave",)])
        house.undo()
        twin = house.twin()
        self.assertIs(type(twin), House)
        self.assertIsNot(twin, house)
        self.assertEqual([twin == house, twin.deeds(), twin.log()], [True, 2, []])
        self.assertEqual([told(twin.as_of(many)) for many in range(3)], [told(house.as_of(many)) for many in range(3)])
        self.assertEqual([twin.undo(), twin.undo(), twin.undo()], [True, True, False])
        self.assertEqual(told(twin), told(House(TRIO)))

    def test_only_do_writes_to_the_log(self):
        house = House(TRIO)
        house.beat()
        house.turn()
        house.place((2, 1, 1))
        house.come((1, 1))
        house.leave()
        house.undo()
        house.as_of(1).do([("turn",)])
        house.twin().do([("turn",)])
        self.assertRaises(NotStanding, house.place, ())
        self.assertEqual(house.log(), [])

    def test_the_log_belongs_to_the_caller(self):
        house = House(TRIO)
        house.do([("beat",), ("turn",)])
        log = house.log()
        self.assertIs(type(log), list)
        self.assertEqual([type(item) for item in log], [tuple, str, str, tuple])
        log.clear()
        self.assertEqual(house.log(), [("in", 2), "beat", "turn", ("out", 2)])
        house.log().append("more")
        self.assertEqual(house.log(), [("in", 2), "beat", "turn", ("out", 2)])
        house.undo()
        self.assertEqual(house.log(), [("in", 2), "beat", "turn", ("out", 2)])
        house.do([("turn",)])
        self.assertEqual(house.log(), [("in", 2), "beat", "turn", ("out", 2), ("in", 1), "turn", ("out", 1)])

    def test_equal_houses(self):
        for book in (DUO, TRIO, ONE_RUNG, ALONE):
            for one, other in itertools.product(states_of(book), repeat=2):
                self.assertIs(House(book, one) == House(book, other), one == other)
                self.assertIs(House(book, one) != House(book, other), one != other)
        # The same standing and faces in another book.
        self.assertIs(House(DUO) == House(((2,), (1, 2))), False)
        self.assertIs(House(DUO) == House(TRIO), False)

    def test_deeds_and_logs_do_not_count_for_equality(self):
        one, other = House(DUO), House(DUO)
        one.do([("beat", 3), ("beat", -3)])
        self.assertIs(one == other, True)
        other.beat(3)
        self.assertIs(one == other, False)
        one.undo()
        self.assertIs(one == other, True)

    def test_other_values(self):
        house = House(DUO)
        for value in (None, True, False, 0, 1, 2, "", "House(2 climbers, 4 standings)", (), [], DUO, LOW, (DUO, LOW),
                      [DUO, LOW], {}, object(), House):
            self.assertIs(house == value, False)
            self.assertIs(value == house, False)
            self.assertIs(house != value, True)

    def test_len_and_repr(self):
        for book in CHOSEN_BOOKS + list(BIG_BOOKS):
            house = House(book)
            self.assertEqual(len(house), len(book))
            self.assertEqual(repr(house), f"House({len(book)} climbers, {standings_many(book)} standings)")
        self.assertEqual(repr(House(((1,),))), "House(1 climbers, 1 standings)")
        self.assertEqual(repr(House(((5,),))), "House(1 climbers, 5 standings)")
        self.assertEqual(repr(House(ONE_RUNG)), "House(3 climbers, 1 standings)")
        house = House(TRIO)
        house.leave()
        self.assertEqual([len(house), repr(house)], [2, "House(2 climbers, 5 standings)"])
        house.undo()
        self.assertEqual([len(house), repr(house)], [3, "House(3 climbers, 7 standings)"])

    def test_queries_have_no_side_effects(self):
        house = House(TRIO)
        house.do([("beat", 3), ("turn",), ("leave",)])
        kept = all_told(house)
        for turn in range(3):
            self.assertEqual(all_told(house), kept)

    def test_returned_values_are_passed_in_again(self):
        house = House(WIDE)
        house.turn()
        number = house.clock()
        house.beat(number ** 4)
        house.beat(-(number ** 4))
        self.assertEqual(house.clock(), number)
        self.assertEqual(House(house.book(), house.state()), house)
        self.assertEqual(house.place(house.beat(5)), house.clock())


def some_deed(house, chance):
    """A deed for the house, sometimes one that is refused."""
    name = chance.choice(("beat", "beat", "turn", "place", "come", "come", "leave"))
    if name == "beat":
        return name, chance.choice((0, 1, -1, 5, -7, chance.randrange(-FAR, FAR), FAR))
    if name == "place":
        return name, tuple(rung + chance.choice((0, 0, 0, 1, -1)) for rung in house.state()[0])
    if name == "come":
        items = max(house.book()[-1]) + chance.choice((0, 0, 0, 1, -1))
        return name, tuple(chance.randrange(1, 5) for item in range(items)), chance.choice((1, -1))
    return (name,)


class AnyDeedsTest(HouseTest):
    """Guarantee (f), over deeds of all kinds, undone and failed ones included."""

    def test_any_deeds(self):
        for seed in range(25):
            chance = random.Random(seed)
            house = House(chance.choice((DUO, TRIO, ALONE, ONE_RUNG)))
            seen = [told(house)]
            for turn in range(40):
                if chance.random() < 0.2:
                    self.assertIs(house.undo(), len(seen) > 1)
                    if len(seen) > 1:
                        seen.pop()
                else:
                    self.make_deed(house, chance, seen)
                self.assertEqual(told(house), seen[-1])
                self.assertEqual(house.deeds(), len(seen) - 1)
                self.check_as_new(house)
            self.assertEqual([told(house.as_of(many)) for many in range(len(seen))], seen)

    def make_deed(self, house, chance, seen):
        name, *given = some_deed(house, chance)
        twin, new = house.twin(), House(house.book(), house.state())
        try:
            result = getattr(house, name)(*given)
        except (NotStanding, BadTable, Full, Last) as error:
            for other in (twin, new):
                self.check_raised(type(error), vars(error), getattr(other, name), *given)
            return
        seen.append(told(house))
        for other in (twin, new):
            self.assertEqual(getattr(other, name)(*given), result)
            self.assertEqual(told(other), seen[-1])

    def test_any_lists_of_deeds(self):
        for seed in range(40):
            chance = random.Random(1000 + seed)
            house = House(chance.choice((DUO, TRIO, ALONE)))
            for turn in range(6):
                whole = chance.random() < 0.5
                deeds = self.some_list(house, chance)
                self.check_do(house, deeds, whole)
                for deed in range(chance.randrange(3)):
                    house.undo()

    def some_list(self, house, chance):
        """A list of deeds, most of them such that they are done."""
        other = house.twin()
        deeds = []
        for at in range(chance.randrange(1, 12)):
            deeds.append(some_deed(other, chance))
            try:
                other.do(deeds[-1:])
            except (NotStanding, BadTable, Full, Last):
                if chance.random() < 0.7:
                    deeds.pop()
        return deeds

    def check_do(self, house, deeds, whole):
        first, log, other = house.twin(), house.log(), house.twin()
        results = []
        failed = None
        for name, *given in deeds:
            try:
                results.append(getattr(other, name)(*given))
            except (NotStanding, BadTable, Full, Last) as error:
                failed = error
                break
        if failed is None:
            self.assertEqual(house.do(deeds, whole=whole), results)
        else:
            self.check_raised(type(failed), vars(failed), house.do, deeds, whole=whole)
        wanted = first if failed is not None and whole else other
        names = [deed[0] for deed in deeds[: len(results)]]
        self.assertEqual(house.log(), log + [("in", len(deeds)), *names, ("out", len(results))])
        self.assertEqual(told(house), told(wanted))
        self.assertEqual(house.deeds(), wanted.deeds())
        self.check_as_new(house)


if __name__ == "__main__":
    unittest.main()
