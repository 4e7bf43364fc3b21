"""The interface at the end of the document: its names and arguments, and where they are defined."""

import importlib
import inspect
import unittest

from aboutface.house import House

FUNCTIONS = {
    "books": ("is_book(value)", "is_standing(book, value)", "is_state(book, value)", "lengths(book, standing)"),
    "beats": ("blocked(book, state)", "mover(book, state)", "beat(book, state)", "beats_along(book, state, many)",
              "turned(state)", "before(book, state)"),
    "counts": ("standings_many(book)", "round_length(book)", "rounds_many(book)", "standing_at(book, number)",
               "standing_number(book, standing)", "goes_in_round(book, climber)"),
    "rounds": ("signs_of(book, state)", "start(book, signs)", "is_signs(book, value)", "faces_at(book, signs, standing)",
               "clock(book, state)", "state_at(book, signs, number)", "after(book, state, many)",
               "distance(book, one, other)"),
    "goes": ("goes_many(book, state, climber, many)", "turns_many(book, state, climber, many)",
             "next_go(book, state, climber)", "next_turn(book, state, climber)"),
    "wishes": ("met_many(book, wish)", "met_in(book, state, wish, many)", "met_at(book, state, wish, number)"),
    "sums": ("weight_all(book, weights)", "weight_sum(book, state, weights, many)",
             "rung_sum(book, state, climber, many)", "mean_rung(book, climber)"),
    "small": ("round_of(book, state)", "all_rounds(book)"),
    "changes": ("part(book, many)", "part_state(state, many)", "steps_many(book, state, older, many)",
                "with_climber(book, table)", "with_table(book, climber, table)"),
    "texts": ("book_text(book)", "state_text(state)", "wish_text(wish)", "book_in(text)", "state_in(book, text)",
              "wish_in(book, text)"),
    "desk": ("answers(text)",),
}
METHODS = ("__init__(self, book, state=None)", "beat(self, many=1)", "turn(self)", "place(self, standing)",
           "come(self, table, face=1)", "leave(self)", "undo(self)", "do(self, deeds, *, whole=True)", "book(self)",
           "state(self)", "clock(self)", "signs(self)", "deeds(self)", "as_of(self, many)", "twin(self)", "log(self)",
           "__len__(self)", "__eq__(self, other)", "__repr__(self)")


class InterfaceTest(unittest.TestCase):
    def test_functions(self):
        for module, listed in FUNCTIONS.items():
            names = vars(importlib.import_module(f"aboutface.{module}"))
            for form in listed:
                with self.subTest(module, form=form):
                    function = names[form.partition("(")[0]]
                    self.assertEqual(function.__name__ + str(inspect.signature(function)), form)
                    self.assertEqual(function.__module__, f"aboutface.{module}")

    def test_methods_stand_in_the_class_itself(self):
        for form in METHODS:
            with self.subTest(form):
                method = vars(House)[form.partition("(")[0]]
                self.assertEqual(method.__name__ + str(inspect.signature(method)), form)
        self.assertEqual(House.__bases__, (object,))


if __name__ == "__main__":
    unittest.main()
