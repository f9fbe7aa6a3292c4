"""Codes: small machines that read a column and pay bits."""

from bestcodes.common import decimal, read_lines, read_number, strange_place
from bestcodes.errors import BadCode, BadText, BadValue


class Code:
    """A code: for each state the pairs (goal, bits) of the values and the bits at the end."""

    def __init__(self, values, rows, ends):
        check_states(values, rows, ends)
        self.letters = values
        self.rows = tuple([tuple([(goal, bits) for goal, bits in row]) for row in rows])
        self.ends = tuple(ends)

    def __eq__(self, other):
        return (isinstance(other, Code) and self.letters == other.letters
                and self.rows == other.rows and self.ends == other.ends)

    def __len__(self):
        return len(self.rows)

    def __str__(self):
        lines = [f"code {self.letters}"]
        for row, end in zip(self.rows, self.ends):
            words = [f"{goal}+{decimal(bits)}" for goal, bits in row]
            lines.append(" ".join([*words, f".{decimal(end)}"]))
        return "\n".join(lines)

    @classmethod
    def read(cls, text):
        """The code that a text tells."""
        letters, lines = read_lines("code", text)
        rows = []
        ends = []
        for line, words in enumerate(lines, start=2):
            told = read_state(words, len(letters), len(lines))
            if told is None:
                raise BadText(line)
            rows.append(told[0])
            ends.append(told[1])
        return cls(letters, rows, ends)

    def length(self, column):
        """The bits that are paid for a column."""
        self.check_letters(column)
        state, bits = self.run(0, column)
        return bits + self.ends[state]

    def far(self, blocks):
        """The length of the column in which each word stands so many times."""
        kept = [(word, many) for word, many in blocks if many > 0]
        self.check_letters("".join([word for word, many in kept]))
        state = 0
        total = 0
        for word, many in kept:
            state, bits = self.run_often(state, word, many)
            total += bits
        return total + self.ends[state]

    def check_letters(self, column):
        """Raise BadValue if a letter is no value."""
        place = strange_place(self.letters, column)
        if place is not None:
            raise BadValue(place)

    def run(self, state, word):
        """The state behind a word of values that begins in a state, and the bits paid for it."""
        total = 0
        for letter in word:
            state, bits = self.rows[state][self.letters.find(letter)]
            total += bits
        return state, total

    def run_often(self, state, word, many):
        """As run, for a word that stands many times."""
        rounds = {}
        path = []
        total = 0
        while len(path) < many and state not in rounds:
            rounds[state] = len(path)
            path.append((state, total))
            state, bits = self.run(state, word)
            total += bits
        if len(path) == many:
            return state, total
        # the states come round again: whole laps are counted, not walked
        first = rounds[state]
        before = path[first][1]
        laps, left = divmod(many - len(path), len(path) - first)
        goal, bits = path[first + left]
        return goal, total + laps * (total - before) + bits - before


def check_states(values, rows, ends):
    """Raise BadCode for the first state that is not as a state of a code must be."""
    many = len(rows)
    for state, row in enumerate(rows):
        if len(row) != len(values) or state >= len(ends):
            raise BadCode(state)
        if any([not 0 <= goal < many for goal, bits in row]):
            raise BadCode(state)
    if many == 0 or len(ends) > many:
        raise BadCode(many)


def read_state(words, values, states):
    """The pairs and the end that a line tells, None if it is wrong.

    There are so many values and so many states.
    """
    if len(words) != values + 1 or words[-1][0] != ".":
        return None
    pairs = [read_pair(word, states) for word in words[:-1]]
    end = read_number(words[-1][1:])
    if None in pairs or end is None:
        return None
    return pairs, end


def read_pair(word, states):
    """The pair (goal, bits) that a word tells, None if it is wrong."""
    parts = word.split("+")
    if len(parts) != 2:
        return None
    goal, bits = read_number(parts[0]), read_number(parts[1])
    if goal is None or bits is None or goal >= states:
        return None
    return goal, bits
