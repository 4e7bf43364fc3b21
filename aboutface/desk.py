"""A desk: lines of text, each answered by one house."""

from aboutface.beats import mover
from aboutface.counts import standings_many
from aboutface.errors import BadLine, BadTable, BadText, Full, Last, NoClimber, NotStanding
from aboutface.goes import goes_many, next_go
from aboutface.house import House
from aboutface.texts import book_in, is_number, is_wish_word, state_text, wish_item
from aboutface.wishes import met_at

# How many numbers stand behind the first word of a line, where this is fixed.
NUMBERS = {
    "beat": 1, "back": 1, "turn": 0, "leave": 0, "undo": 0, "state": 0, "clock": 0, "signs": 0,
    "standings": 0, "goer": 0, "next": 1, "goes": 2,
}


def is_request(words):
    """Tell whether the words of a line are of one of the known forms."""
    first = words[0]
    rest = words[1:]
    if first == "met":
        return len(rest) > 0 and all([is_wish_word(word) for word in rest])
    if not all([is_number(word) for word in rest]):
        return False
    if first == "place":
        return len(rest) > 0
    if first == "come":
        return len(rest) > 0 and "0" not in rest
    return first in NUMBERS and NUMBERS[first] == len(rest)


def numbers_in(words):
    """Return the tuple of the numbers that the words are."""
    return tuple([int(word) for word in words])


def number_or(number, word):
    """Return the text of a number, or the word if there is none."""
    return word if number is None else str(number)


def answer_beat(house, words):
    """Answer with the STATE after so many beats."""
    house.beat(int(words[0]))
    return state_text(house.state())


def answer_back(house, words):
    """Answer with the STATE so many beats before."""
    house.beat(-int(words[0]))
    return state_text(house.state())


def answer_turn(house, words):
    """Let everybody turn about and answer with the clock."""
    return str(house.turn())


def answer_place(house, words):
    """Let the climbers stand as told and answer with the clock."""
    return str(house.place(numbers_in(words)))


def answer_come(house, words):
    """Let one more climber come and answer how many there are."""
    return str(house.come(numbers_in(words)))


def answer_leave(house, words):
    """Let the youngest climber leave and answer with their rung."""
    return str(house.leave())


def answer_undo(house, words):
    """Take back the last deed and answer whether there was one."""
    return "done" if house.undo() else "nothing"


def answer_state(house, words):
    """Answer with the STATE."""
    return state_text(house.state())


def answer_clock(house, words):
    """Answer with the clock."""
    return str(house.clock())


def answer_signs(house, words):
    """Answer with the SIGNS, without blanks."""
    signs = house.signs()
    return "".join(["+" if sign == 1 else "-" for sign in signs]) if len(signs) > 0 else "."


def answer_standings(house, words):
    """Answer how many STANDINGs there are."""
    return str(standings_many(house.book()))


def answer_goer(house, words):
    """Answer who goes at the next beat."""
    return number_or(mover(house.book(), house.state()), "none")


def answer_next(house, words):
    """Answer when a climber goes next."""
    return number_or(next_go(house.book(), house.state(), int(words[0])), "never")


def answer_goes(house, words):
    """Answer how often a climber goes."""
    climber, many = numbers_in(words)
    return str(goes_many(house.book(), house.state(), climber, many))


def answer_met(house, words):
    """Answer when a WISH is met for the first time."""
    if len(words) != len(house):
        raise NotStanding()
    wish = [wish_item(word) for word in words]
    return number_or(met_at(house.book(), house.state(), wish, 0), "never")


ANSWERS = {
    "beat": answer_beat, "back": answer_back, "turn": answer_turn, "place": answer_place, "come": answer_come,
    "leave": answer_leave, "undo": answer_undo, "state": answer_state, "clock": answer_clock, "signs": answer_signs,
    "standings": answer_standings, "goer": answer_goer, "next": answer_next, "goes": answer_goes, "met": answer_met,
}


def answer(house, words):
    """Return the text that answers a request, also if the house refuses it."""
    action = ANSWERS[words[0]]
    try:
        return action(house, words[1:])
    except NoClimber:
        return "refused NoClimber"
    except NotStanding:
        return "refused NotStanding"
    except BadTable:
        return "refused BadTable"
    except Full:
        return "refused Full"
    except Last:
        return "refused Last"


def book_of_line(line):
    """Return the BOOK that the first line describes."""
    try:
        return book_in(line)
    except BadText:
        raise BadLine(0) from None


def answers(text):
    """Return the list of the answers to all lines but the first, which is the text of a BOOK."""
    lines = text.split("\n")
    book = book_of_line(lines[0])
    requests = [line.split(" ") for line in lines[1:]]
    for at, words in enumerate(requests):
        if not is_request(words):
            raise BadLine(at + 1)
    house = House(book)
    return [answer(house, words) for words in requests]
