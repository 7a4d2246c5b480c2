"""Pacers: machines that write a pair of texts, a word on each side with each move."""

from evenlead.errors import BadPacer, BadText
from evenlead.parts import (
    is_size,
    is_state,
    is_tuple_of_states,
    line_of,
    lines_of,
    number_of,
    size_at,
    states_at,
    text_of,
    word_of,
    words_at,
)
from evenlead.words import is_text

FIRST_MOVE_LINE = 3


class Pacer:
    """A pacer: how many states it has, the begins, the moves and the ends."""

    def __init__(self, size, begins, moves, ends):
        if not is_size(size):
            raise BadPacer("size")
        if not is_tuple_of_states(begins, size):
            raise BadPacer("begins")
        if not is_tuple_of_moves(moves, size):
            raise BadPacer("moves")
        if not is_tuple_of_states(ends, size):
            raise BadPacer("ends")
        self.size = size
        self.begins = begins
        self.moves = moves
        self.ends = ends

    def tells(self, left, right):
        """Whether some way from a begin to an end spells this pair."""
        met = places_met(self, left, right)
        return any([(end, len(left), len(right)) in met for end in self.ends])

    def spelled(self, moves):
        """The pair that the moves with these indexes spell, whether they are a way or not."""
        left = [self.moves[at][1] for at in moves]
        right = [self.moves[at][2] for at in moves]
        return "".join(left), "".join(right)

    def __or__(self, other):
        """Tells what one of both tells."""
        return Pacer(
            self.size + other.size,
            self.begins + states_behind(self.size, other.begins),
            self.moves + moves_behind(self.size, other.moves),
            self.ends + states_behind(self.size, other.ends),
        )

    def __add__(self, other):
        """Tells the pairs of the first one with those of the other one put behind them."""
        begins = states_behind(self.size, other.begins)
        bridges = tuple([(end, "", "", begin) for end in self.ends for begin in begins])
        return Pacer(
            self.size + other.size,
            self.begins,
            self.moves + moves_behind(self.size, other.moves) + bridges,
            states_behind(self.size, other.ends),
        )

    def turned(self):
        """Tells the pairs with left and right exchanged."""
        moves = [(state, right, left, further) for state, left, right, further in self.moves]
        return Pacer(self.size, self.begins, tuple(moves), self.ends)

    def backward(self):
        """Tells the pairs with both texts read from behind."""
        moves = [(further, left[::-1], right[::-1], state) for state, left, right, further in self.moves]
        return Pacer(self.size, self.ends, tuple(moves), self.begins)

    def __eq__(self, other):
        return (
            isinstance(other, Pacer)
            and self.size == other.size
            and self.begins == other.begins
            and self.moves == other.moves
            and self.ends == other.ends
        )

    def __str__(self):
        return "\n".join(text_lines(self))

    @classmethod
    def read(cls, text):
        """The pacer of which any value is the text."""
        lines = lines_of(text)
        size = size_at(lines, 0, "pacer")
        begins = states_at(lines, 1, "begins", size)
        ends = states_at(lines, 2, "ends", size)
        moves = [move_at(lines, at, size) for at in range(FIRST_MOVE_LINE, len(lines))]
        return cls(size, begins, tuple(moves), ends)


def is_move(thing, size):
    """Whether any value is a move between some of so many states."""
    if not isinstance(thing, tuple) or len(thing) != 4:
        return False
    state, left, right, further = thing
    return is_state(state, size) and is_text(left) and is_text(right) and is_state(further, size)


def is_tuple_of_moves(thing, size):
    """Whether any value is a tuple of moves between some of so many states."""
    return isinstance(thing, tuple) and all([is_move(part, size) for part in thing])


def states_behind(size, states):
    """The states as they are numbered behind so many others."""
    return tuple([size + state for state in states])


def moves_behind(size, moves):
    """The moves between states that are numbered behind so many others."""
    return tuple([(size + state, left, right, size + further) for state, left, right, further in moves])


def moves_by_state(moves):
    """A dict of the moves that leave each state, as far as some do."""
    leaving = {}
    for move in moves:
        leaving.setdefault(move[0], []).append(move)
    return leaving


def places_met(pacer, left, right):
    """A dict of all (state, many, many) that ways from begins meet, spelling so many letters of both texts."""
    leaving = moves_by_state(pacer.moves)
    waiting = [(begin, 0, 0) for begin in pacer.begins]
    met = {place: True for place in waiting}
    while waiting:
        state, on_left, on_right = waiting.pop()
        for _, word, other, further in leaving.get(state, []):
            place = (further, on_left + len(word), on_right + len(other))
            fits = left.startswith(word, on_left) and right.startswith(other, on_right)
            if fits and place not in met:
                met[place] = True
                waiting.append(place)
    return met


def text_lines(pacer):
    """The lines of the text of a pacer."""
    moves = [
        f"move {state} {word_of(left)} {word_of(right)} {further}" for state, left, right, further in pacer.moves
    ]
    return [f"pacer {pacer.size}", line_of("begins", pacer.begins), line_of("ends", pacer.ends), *moves]


def move_at(lines, at, size):
    """The move between some of so many states that a line tells."""
    words = words_at(lines, at, "move")
    if len(words) != 4:
        raise BadText(at + 1)
    state, left, right, further = words
    move = (number_of(state), text_of(left), text_of(right), number_of(further))
    if not is_move(move, size):
        raise BadText(at + 1)
    return move
