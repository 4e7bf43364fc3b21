"""A house of climbers: deeds that change its book and state, and that can be undone."""

from aboutface.beats import turned
from aboutface.books import as_book, as_state, is_standing
from aboutface.changes import part, part_state, with_climber
from aboutface.counts import standings_many
from aboutface.errors import BadDeed, BadTable, Full, Last, NoDeed, NotStanding
from aboutface.rounds import after, clock, signs_of

MOST_CLIMBERS = 20

# The least and the greatest number of arguments of each deed.
ARGUMENTS = {"beat": (0, 1), "turn": (0, 0), "place": (1, 1), "come": (1, 2), "leave": (0, 0)}


def is_deed(item):
    """Tell whether an item of do is a tuple of the name of a deed and the right number of arguments."""
    if not isinstance(item, tuple) or len(item) == 0:
        return False
    name = item[0]
    # A name may be any value, also one that no dict can be asked for.
    if not isinstance(name, str) or name not in ARGUMENTS:
        return False
    least, most = ARGUMENTS[name]
    return least <= len(item) - 1 <= most


class House:
    """Climbers with a BOOK and a STATE, and the deeds that led to them.

    past holds the pair of BOOK and STATE before the first deed and after each
    deed in effect; notes are what do wrote to the log.
    """

    def __init__(self, book, state=None):
        tables = as_book(book)
        low = (1,) * len(tables)
        self.past = [(tables, (low, low) if state is None else as_state(state))]
        self.notes = []

    def __len__(self):
        return len(self.book())

    def __eq__(self, other):
        return isinstance(other, House) and self.past[-1] == other.past[-1]

    def __repr__(self):
        return f"House({len(self)} climbers, {standings_many(self.book())} standings)"

    def book(self):
        """Return the BOOK."""
        return self.past[-1][0]

    def state(self):
        """Return the STATE."""
        return self.past[-1][1]

    def clock(self):
        """Return the clock of the STATE."""
        return clock(self.book(), self.state())

    def signs(self):
        """Return the SIGNS of the round of the STATE."""
        return signs_of(self.book(), self.state())

    def deeds(self):
        """Return the number of deeds that can be undone."""
        return len(self.past) - 1

    def log(self):
        """Return the list of what do has noted."""
        return list(self.notes)

    def as_of(self, many):
        """Return a new House in the state after the first many deeds, which can be undone there."""
        if many < 0 or many > self.deeds():
            raise NoDeed(many)
        other = House(self.book(), self.state())
        other.past = self.past[: many + 1]
        return other

    def twin(self):
        """Return a new House in the same state, in which the same deeds can be undone."""
        return self.as_of(self.deeds())

    def beat(self, many=1):
        """Make many beats as one deed, backwards if many is negative, and return the STANDING then."""
        state = after(self.book(), self.state(), many)
        self.past.append((self.book(), state))
        return state[0]

    def turn(self):
        """Let everybody turn about and return the clock then."""
        self.past.append((self.book(), turned(self.state())))
        return self.clock()

    def place(self, standing):
        """Let the climbers stand as told, with the same faces, and return the clock then."""
        rungs = tuple(standing)
        if not is_standing(self.book(), rungs):
            raise NotStanding()
        self.past.append((self.book(), (rungs, self.state()[1])))
        return self.clock()

    def come(self, table, face=1):
        """Let one more climber come, younger than all, and return how many there are then."""
        tables = with_climber(self.book(), table)
        if len(self) >= MOST_CLIMBERS:
            raise Full(MOST_CLIMBERS)
        standing, faces = self.state()
        self.past.append((tables, ((*standing, 1), (*faces, face))))
        return len(self)

    def leave(self):
        """Let the youngest climber leave and return their rung."""
        rest = len(self) - 1
        if rest == 0:
            raise Last()
        rung = self.state()[0][-1]
        self.past.append((part(self.book(), rest), part_state(self.state(), rest)))
        return rung

    def undo(self):
        """Take back the last deed that is in effect; tell whether there was one."""
        if self.deeds() == 0:
            return False
        self.past.pop()
        return True

    def do(self, deeds, *, whole=True):
        """Do a list of deeds and return the list of their results."""
        for at, item in enumerate(deeds):
            if not is_deed(item):
                raise BadDeed(at)
        kept = len(self.past)
        results = []
        self.notes.append(("in", len(deeds)))
        try:
            for name, *given in deeds:
                results.append(self.do_one(name, given))
                self.notes.append(name)
        except (NotStanding, BadTable, Full, Last):
            self.notes.append(("out", len(results)))
            if whole:
                self.past = self.past[:kept]
            raise
        self.notes.append(("out", len(results)))
        return results

    def do_one(self, name, given):
        """Do the deed of this name with the given arguments and return its result."""
        if name == "beat":
            return self.beat(*given)
        if name == "turn":
            return self.turn()
        if name == "place":
            return self.place(*given)
        if name == "come":
            return self.come(*given)
        return self.leave()
