"""Made codes. Each is told by a memory: what a column leaves behind, and what that pays."""

from bestcodes.codes import Code
from bestcodes.common import MOST_STATES, explored, strange_place
from bestcodes.errors import BadValue, Unlike


def made(values, start, step, end):
    """The code with a state for each memory that some column leaves.

    step(memory, value) tells the memory behind the value and the bits paid for it,
    end(memory) the bits paid at the end.
    """

    def goal(memory, value):
        return step(memory, value)[0]

    memories, goals = explored(values, start, goal, MOST_STATES)
    rows = []
    for memory, numbers in zip(memories, goals):
        rows.append([(number, step(memory, value)[1]) for value, number in zip(values, numbers)])
    return Code(values, rows, [end(memory) for memory in memories])


def nothing(memory):
    """The end of codes that pay nothing there."""
    return 0


def table(values, bits):
    """Each value pays its bits."""

    def step(memory, value):
        return memory, bits[value]

    return made(values, (), step, nothing)


def runs(values, most, bits):
    """Each piece of equal values, at most most, pays the bits of its value."""

    def step(memory, value):
        last, many = memory
        if value == last and many < most:
            return (last, many + 1), 0
        return (value, 1), bits[value]

    return made(values, ("", 0), step, nothing)


def pairs(values, first, bits):
    """The first value pays by first, each further one by it and the value ahead."""

    def step(memory, value):
        if memory == "":
            return value, first[value]
        return value, bits[memory + value]

    return made(values, "", step, nothing)


def packed(values, size, head, widths):
    """Each block pays head, and for each of its values the greatest width in it."""

    def paid(many, width):
        return head + many * width

    def step(memory, value):
        many, width = memory[0] + 1, max(memory[1], widths[value])
        if many < size:
            return (many, width), 0
        return (0, 0), paid(many, width)

    def end(memory):
        many, width = memory
        return paid(many, width) if many > 0 else 0

    return made(values, (0, 0), step, end)


def distinct(values, size, head, entry, places):
    """Each block pays head, entry for each different value, and places for each of its values."""

    def paid(many, kinds):
        return head + entry * len(kinds) + many * places[len(kinds) - 1]

    def step(memory, value):
        many, kinds = memory[0] + 1, "".join(sorted(set(memory[1] + value)))
        if many < size:
            return (many, kinds), 0
        return (0, ""), paid(many, kinds)

    def end(memory):
        many, kinds = memory
        return paid(many, kinds) if many > 0 else 0

    return made(values, (0, ""), step, end)


def summed(one, other):
    """The lengths by both codes together."""
    if one.letters != other.letters:
        raise Unlike()

    def step(memory, value):
        goal, bits = one.run(memory[0], value)
        beside, more = other.run(memory[1], value)
        return (goal, beside), bits + more

    def end(memory):
        return one.ends[memory[0]] + other.ends[memory[1]]

    return made(one.letters, (0, 0), step, end)


def times(code, factor, more):
    """The length by the code times factor, and more at the end."""

    def step(memory, value):
        goal, bits = code.run(memory, value)
        return goal, bits * factor

    def end(memory):
        return code.ends[memory] * factor + more

    return made(code.letters, 0, step, end)


def translated(values, words, code):
    """The length by the code of the words of all values, one behind the other."""
    for place, value in enumerate(values):
        if strange_place(code.letters, words[value]) is not None:
            raise BadValue(place)

    def step(memory, value):
        return code.run(memory, words[value])

    def end(memory):
        return code.ends[memory]

    return made(values, 0, step, end)
