"""Point [16], with the conventions of [2] and the limits of [3] as far as they touch desk.py."""

import unittest

from aboutface.beats import mover
from aboutface.books import is_standing
from aboutface.counts import standings_many
from aboutface.desk import answers
from aboutface.errors import BadLine
from aboutface.goes import goes_many, next_go
from aboutface.house import House
from aboutface.rounds import after, clock, signs_of, state_at
from aboutface.texts import book_text, state_text, wish_text
from aboutface.wishes import met_at
from tests.samples import ALONE, CHOSEN_BOOKS, DUO, FLAT, LATE, ONE_RUNG, TRIO, WIDE, rounds_by_beats, standings_of

MOST = 9999999999999
FORMS = ("beat 1", "back 1", "turn", "place 1 1", "come 1 1 1", "leave", "undo", "state", "clock", "signs", "standings",
         "goer", "next 0", "goes 0 1", "met 1 ?")
PLAIN_WORDS = ("turn", "leave", "undo", "state", "clock", "signs", "standings", "goer")
NO_NUMBERS = ("", "00", "01", "-1", "+1", "1.0", "x", "?", "/", "1+", "\t", "1\t", "\u0661", "\u00b2", "\uff11",
              "1" * 14, "10000000000000", "0" * 14, "one", "1,", "None")


def ask(book, *lines):
    return answers("\n".join((book_text(book),) + lines))


class ExamplesTest(unittest.TestCase):
    def test_answers(self):
        text = "2 / 1 3\nbeat 1\nclock\ngoer\ngoes 1 3\nturn\nback 1\nmet 1 ?\nnext 5\nleave\nsigns"
        wanted = ["2+ 3-", "1", "1", "2", "6", "2- 2+", "2", "refused NoClimber", "2", "."]
        self.assertEqual(answers(text), wanted)


class RowsTest(unittest.TestCase):
    """Each row of the table."""

    def test_only_a_book(self):
        for book in CHOSEN_BOOKS + [WIDE, LATE, FLAT]:
            found = answers(book_text(book))
            self.assertEqual(found, [])
            self.assertIs(type(found), list)

    def test_each_state(self):
        """What is answered from each state of the round of the first state."""
        for book in CHOSEN_BOOKS:
            first = House(book).state()
            for states in rounds_by_beats(book):
                if first not in states:
                    continue
                for many in range(len(states)):
                    self.check_state(book, after(book, first, many), many)

    def check_state(self, book, state, many):
        wishes = [state[0], (None,) * len(book), (None,) * (len(book) - 1) + (2,), (0,) * len(book)]
        lines = ["state", "clock", "goer", "standings"]
        goer = mover(book, state)
        wanted = [state_text(state), str(clock(book, state)), "none" if goer is None else str(goer),
                  str(standings_many(book))]
        for climber in range(len(book)):
            lines += [f"next {climber}", f"goes {climber} 7", f"goes {climber} 0"]
            go = next_go(book, state, climber)
            wanted += ["never" if go is None else str(go), str(goes_many(book, state, climber, 7)), "0"]
        for wish in wishes:
            lines.append(f"met {wish_text(wish)}")
            time = met_at(book, state, wish, 0)
            wanted.append("never" if time is None else str(time))
        self.assertEqual(ask(book, f"beat {many}", *lines), [state_text(state)] + wanted)

    def test_beat_and_back(self):
        for book in (DUO, TRIO, ALONE, ONE_RUNG, WIDE, LATE):
            first = House(book).state()
            for many in (0, 1, 2, 7, 99, MOST):
                there, back = state_text(after(book, first, many)), state_text(after(book, first, -many))
                self.assertEqual(ask(book, f"beat {many}", f"back {many}", f"back {many}", "undo", "undo", "state"),
                                 [there, state_text(first), back, "done", "done", there])

    def test_turn(self):
        self.assertEqual(ask(DUO, "turn", "state", "turn", "state"), ["7", "1- 1-", "0", "1+ 1+"])

    def test_place(self):
        self.assertEqual(ask(DUO, "place 2 2", "state", "turn", "place 1 1", "clock"), ["2", "2+ 2+", "5", "7", "7"])
        for rungs in ((1, 2), (0, 1), (3, 1), (2, 4), (2,), (1,), (2, 1, 1), (0,), (MOST, 1), (1, MOST), (0,) * 9):
            self.assertFalse(is_standing(DUO, rungs))
            line = " ".join(map(str, ("place",) + rungs))
            self.assertEqual(ask(DUO, "beat 2", line, "state", "undo", "undo"),
                             ["2+ 2-", "refused NotStanding", "2+ 2-", "done", "nothing"])

    def test_come(self):
        self.assertEqual(ask(DUO, "come 1 1 2", "state", "standings", "come 5 5", "standings"),
                         ["3", "1+ 1+ 1+", "5", "4", "25"])
        for table in ("1", "1 1", "1 1 1 1", "9999999999999", "12 12 12 12 12"):
            self.assertEqual(ask(DUO, f"come {table}", "state", "undo"), ["refused BadTable", "1+ 1+", "nothing"])

    def test_a_full_house(self):
        found = ask(ALONE, "come 1 1 1 2", *["come 2 1"] * 19, "come 1", "leave", "come 1 1")
        self.assertEqual(found, [str(many) for many in range(2, 21)] + ["refused Full", "refused BadTable", "1", "20"])
        self.assertEqual(ask(FLAT, "come 1", "come 1 1", "undo"), ["refused Full", "refused BadTable", "nothing"])

    def test_leave(self):
        self.assertEqual(ask(TRIO, "beat 1", "state", "leave", "leave", "leave", "state", "undo", "state"),
                         ["1+ 2+ 2-", "1+ 2+ 2-", "2", "2", "refused Last", "1+", "done", "1+ 2+"])
        self.assertEqual(ask(ALONE, "beat 2", "leave", "state"), ["3+", "refused Last", "3+"])

    def test_undo(self):
        self.assertEqual(ask(DUO, "undo", "beat 1", "beat 0", "undo", "state", "undo", "state", "undo"),
                         ["nothing", "2+ 3-", "2+ 3-", "done", "2+ 3-", "done", "1+ 1+", "nothing"])

    def test_signs(self):
        self.assertEqual(ask(ALONE, "signs"), ["."])
        self.assertEqual(ask(DUO, "signs", "place 2 1", "signs", "leave", "signs"), ["+", "1", "-", "1", "."])
        # The signs are those of the round, not the present faces.
        self.assertEqual(ask(TRIO, "beat 1", "signs", "turn", "signs"), ["1+ 2+ 2-", "++", "12", "++"])
        for standing in standings_of(TRIO):
            signs = ["+" if sign == 1 else "-" for sign in signs_of(TRIO, (standing, (1, 1, 1)))]
            line = " ".join(map(str, ("place",) + standing))
            self.assertEqual(ask(TRIO, line, "signs")[1], "".join(signs))

    def test_standings(self):
        self.assertEqual(ask(WIDE, "standings", "leave", "standings"), [str(12 ** 20), "1", str(12 ** 19)])

    def test_goer(self):
        self.assertEqual(ask(DUO, "goer", "beat 1", "goer", "beat 2", "goer"), ["0", "2+ 3-", "1", "2+ 1-", "none"])
        self.assertEqual(ask(ONE_RUNG, "goer"), ["none"])

    def test_next_and_goes(self):
        self.assertEqual(ask(DUO, "next 0", "next 1", "next 2", "next 9999999999999"),
                         ["0", "1", "refused NoClimber", "refused NoClimber"])
        self.assertEqual(ask(DUO, "goes 0 8", "goes 1 3", "goes 2 0", "goes 2 1", "goes 9999999999999 9999999999999"),
                         ["2", "2", "refused NoClimber", "refused NoClimber", "refused NoClimber"])
        self.assertEqual(ask(ONE_RUNG, "next 2", "goes 2 9999999999999", "next 3"), ["never", "0", "refused NoClimber"])
        self.assertEqual(ask(WIDE, "next 0", "goes 19 9999999999999"),
                         [str(12 ** 19 - 1), str(goes_many(WIDE, House(WIDE).state(), 19, MOST))])

    def test_met(self):
        self.assertEqual(ask(DUO, "met 2 1", "met 1 2", "met ? ?", "met 0 ?", "met ? 9999999999999", "met 2 ?"),
                         ["3", "never", "0", "never", "never", "1"])
        for wish in ("?", "1", "9", "0", "? ? ?", "1 1 1", "? 1 ? 7"):
            self.assertEqual(ask(DUO, f"met {wish}", "undo"), ["refused NotStanding", "nothing"])
        self.assertEqual(ask(DUO, "met 1 1 1", "come 1 1 1", "met 1 1 1", "met 1 1"),
                         ["refused NotStanding", "3", "0", "refused NotStanding"])

    def test_one_house_answers_all_lines(self):
        lines = ["beat 3", "come 2 1 1", "beat 4", "turn", "next 2", "undo", "undo", "leave", "place 2 1", "clock",
                 "back 1"]
        house = House(DUO)
        wanted = []
        house.beat(3)
        wanted.append(state_text(house.state()))
        wanted.append(str(house.come((2, 1, 1))))
        house.beat(4)
        wanted.append(state_text(house.state()))
        wanted.append(str(house.turn()))
        wanted.append(str(next_go(house.book(), house.state(), 2)))
        wanted += ["done" if house.undo() else "nothing" for turn in range(2)]
        wanted.append(str(house.leave()))
        wanted.append(str(house.place((2, 1))))
        wanted.append(str(house.clock()))
        house.beat(-1)
        wanted.append(state_text(house.state()))
        self.assertEqual(ask(DUO, *lines), wanted)

    def test_sixty_lines(self):
        self.assertEqual(len(ask(TRIO, *["beat 5"] * 59)), 59)
        self.assertEqual(ask(WIDE, *["beat 9999999999999"] * 59)[-1],
                         state_text(state_at(WIDE, (1,) * 19, 59 * MOST)))

    def test_more_climbers_and_longer_ladders(self):
        self.assertEqual(ask(((1,),) * 24, "come 1", "signs", "leave"), ["refused Full", "+" * 23, "1"])
        self.assertEqual(ask(((40,), (30,) * 40), "standings", "back 1", "clock"), ["1200", "1- 1-", "2399"])


class BadLinesTest(unittest.TestCase):
    def check_bad(self, at, text):
        with self.assertRaises(BadLine, msg=repr(text)) as caught:
            answers(text)
        self.assertIs(type(caught.exception), BadLine)
        self.assertEqual(vars(caught.exception), {"at": at})

    def check_bad_form(self, line):
        """A line that is of no form, at each place."""
        self.check_bad(1, f"2 / 1 3\n{line}")
        self.check_bad(1, f"2 / 1 3\n{line}\nturn\n{line}")
        self.check_bad(3, f"2 / 1 3\nleave\nleave\n{line}")
        self.check_bad(2, f"2 / 1 3\nplace 9 9\n{line}\nstate")

    def test_no_book(self):
        for line in ("", " ", "0", "2 / 1", "2 / 1 3 ", " 2 / 1 3", "2  / 1 3", "2 / 01 3", "2 / 1\t3", "turn", "state",
                     "2+ 3-", "?", "2 /", "-1", "book 2 / 1 3", "2 / \u0661 3", "10000000000000"):
            self.check_bad(0, line)
            self.check_bad(0, line + "\n")
            self.check_bad(0, line + "\nturn")
            self.check_bad(0, line + "\nno form")
        self.check_bad(0, "\n2 / 1 3")

    def test_each_form_is_taken(self):
        for line in FORMS:
            self.assertEqual(len(ask(DUO, line)), 1)

    def test_empty_lines(self):
        self.check_bad_form("")
        self.check_bad(1, "2 / 1 3\n")
        self.check_bad(2, "2 / 1 3\nturn\n")
        self.check_bad(2, "2 / 1 3\nturn\n\n")
        self.check_bad(3, "2 / 1 3\nturn\nturn\n\nturn")
        self.check_bad(1, "2 / 1 3\n\nturn")

    def test_blanks(self):
        for line in FORMS:
            for wrong in (" " + line, line + " ", line.replace(" ", "  ") + "  ", "  " + line, "\t" + line, line + "\t",
                          line + "\r", line.replace(" ", "\t") + "\t"):
                self.check_bad_form(wrong)
            if " " in line:
                self.check_bad_form(line.replace(" ", "  "))
                self.check_bad_form(line.replace(" ", "\t"))
                self.check_bad_form(line.replace(" ", ""))

    def test_other_words(self):
        for line in (" ", "Beat 1", "TURN", "turns", "tur", "undo!", "house", "log", "twin", "do", "deeds", "as_of 0", "len",
                     "beats 1", "1", "1 beat", "?", "none", "never", "refused Last", "signs_of", "beat1", "__len__", "/",
                     "2 / 1 3", "goer?", "~"):
            self.check_bad_form(line)

    def test_wrong_numbers_of_words(self):
        for word in PLAIN_WORDS:
            for more in ("0", "1", "1 1", "?", "turn", word):
                self.check_bad_form(f"{word} {more}")
        for word in ("beat", "back", "next"):
            for rest in ("", " 1 1", " 1 2 3", " ?", " 1 ?", " 0 0"):
                self.check_bad_form(word + rest)
        for rest in ("", " 1", " 0", " 1 1 1", " ? 1", " 1 ?", " ?"):
            self.check_bad_form("goes" + rest)
        for word in ("place", "come", "met"):
            self.check_bad_form(word)

    def test_words_that_are_no_numbers(self):
        for word in NO_NUMBERS:
            for form in ("beat {}", "back {}", "place {}", "place {} 1", "place 1 {}", "come {}", "come {} 1 1",
                         "come 1 1 {}", "next {}", "goes {} 1", "goes 1 {}"):
                self.check_bad_form(form.format(word))
            if word != "?":
                for form in ("met {}", "met {} ?", "met 1 {}"):
                    self.check_bad_form(form.format(word))

    def test_thirteen_digits(self):
        self.assertEqual(ask(ALONE, "beat 9999999999999", "place 9999999999999", "come 9999999999999",
                             "next 9999999999999", "goes 0 1000000000000", "met 1000000000000")[1:],
                         ["refused NotStanding", "refused BadTable", "refused NoClimber", "750000000000", "never"])

    def test_zero(self):
        for line in ("come 0", "come 0 1 1", "come 1 0 1", "come 1 1 0", "come 0 0 0 0"):
            self.check_bad_form(line)
        self.assertEqual(ask(DUO, "beat 0", "back 0", "place 0 0", "next 0", "goes 0 0", "met 0 0"),
                         ["1+ 1+", "1+ 1+", "refused NotStanding", "0", "0", "never"])

    def test_the_first_bad_line(self):
        self.check_bad(2, "2 / 1 3\nturn\nno\nbeat x\n")
        self.check_bad(0, "no\nno")

    def test_whether_it_fits_is_no_matter_of_the_form(self):
        self.assertEqual(ask(DUO, "place 9", "met ? ? ? ?", "come 7", "next 99", "goes 99 1", "leave", "leave"),
                         ["refused NotStanding", "refused NotStanding", "refused BadTable", "refused NoClimber",
                          "refused NoClimber", "1", "refused Last"])


class ConventionsTest(unittest.TestCase):
    def test_by_name(self):
        self.assertEqual(answers(text="2 / 1 3\nclock"), ["0"])

    def test_the_same_text_again(self):
        text = "2 / 1 3\nbeat 1\ncome 1 1 1\nundo\nplace 5\nclock"
        first = answers(text)
        kept = list(first)
        first.clear()
        self.assertEqual(answers(text), kept)
        self.assertEqual({type(one) for one in kept}, {str})


if __name__ == "__main__":
    unittest.main()
