"""Shapes: small machines that tell which columns are meant."""

from bestcodes.common import MOST_STATES, explored, read_lines, read_number, strange_place
from bestcodes.errors import BadCode, BadText, Unlike


class Shape:
    """A shape: for each state the goals of the values, and the good states."""

    def __init__(self, values, rows, good):
        check_goals(values, rows)
        check_good(good, len(rows))
        self.letters = values
        self.rows = tuple([tuple(row) for row in rows])
        self.good = tuple(sorted(set(good)))

    def __eq__(self, other):
        return (isinstance(other, Shape) and self.letters == other.letters
                and self.rows == other.rows and self.good == other.good)

    def __len__(self):
        return len(self.rows)

    def __str__(self):
        lines = [f"shape {self.letters}"]
        marks = {state: " good" for state in self.good}
        for state, row in enumerate(self.rows):
            goals = " ".join([str(goal) for goal in row])
            lines.append(goals + marks.get(state, ""))
        return "\n".join(lines)

    @classmethod
    def read(cls, text):
        """The shape that a text tells."""
        letters, lines = read_lines("shape", text)
        rows = []
        good = []
        for line, words in enumerate(lines, start=2):
            marked = len(words) > 0 and words[-1] == "good"
            goals = read_goals(words[:-1] if marked else words, len(letters), len(lines))
            if goals is None:
                raise BadText(line)
            if marked:
                good.append(len(rows))
            rows.append(goals)
        return cls(letters, rows, good)

    def has(self, column):
        """Whether the column is of the shape."""
        if strange_place(self.letters, column) is not None:
            return False
        state = 0
        for letter in column:
            state = self.step(state, letter)
        return state in self.good

    def step(self, state, value):
        """The state behind a value."""
        return self.rows[state][self.letters.find(value)]


def check_goals(values, rows):
    """Raise BadCode for the first state that is not as a state of a shape must be."""
    many = len(rows)
    for state, row in enumerate(rows):
        if len(row) != len(values) or any([not 0 <= goal < many for goal in row]):
            raise BadCode(state)
    if many == 0:
        raise BadCode(0)


def check_good(good, many):
    """Raise BadCode for the first good one that is none of so many states."""
    for state in good:
        if not 0 <= state < many:
            raise BadCode(state)


def read_goals(words, values, states):
    """The goals that the words tell, None if they are wrong.

    There are so many values and so many states.
    """
    goals = [read_number(word) for word in words]
    if len(goals) != values or any([goal is None or goal >= states for goal in goals]):
        return None
    return goals


def made(values, start, step, is_good):
    """The shape with a state for each memory that some column leaves.

    step(memory, value) tells the memory behind the value, is_good(memory) whether
    the columns that leave the memory are of the shape.
    """
    memories, rows = explored(values, start, step, MOST_STATES)
    return Shape(values, rows, [state for state, memory in enumerate(memories) if is_good(memory)])


def every(values):
    """All columns."""

    def step(memory, value):
        return memory

    return made(values, (), step, lambda memory: True)


def rising(values):
    """Columns in which no value stands behind a greater one."""

    # the memory "" is that of all other columns
    def step(memory, value):
        return "" if memory == "" or value < memory else value

    return made(values, values[0], step, lambda memory: memory != "")


def changes(values, most):
    """Columns in which at most so many values are unlike the one ahead."""

    # all other columns leave one memory: no last value, and one change too many
    def step(memory, value):
        last, many = memory
        if last != "" and last != value:
            many += 1
        return (value, many) if many <= most else ("", most + 1)

    return made(values, ("", 0), step, lambda memory: memory[1] <= most)


def both(one, other):
    """The columns of both shapes."""
    return beside(one, other, lambda memory: memory[0] in one.good and memory[1] in other.good)


def without(one, other):
    """The columns of one shape that are not of the other."""
    return beside(one, other, lambda memory: memory[0] in one.good and memory[1] not in other.good)


def beside(one, other, is_good):
    """The shape that goes through two shapes at once."""
    if one.letters != other.letters:
        raise Unlike()

    def step(memory, value):
        return one.step(memory[0], value), other.step(memory[1], value)

    return made(one.letters, (0, 0), step, is_good)
