"""What the tests share: all short columns, and the rules that a made code has to keep."""

from itertools import product


def columns(values, most):
    """All columns of at most so many values, in the order of the document."""
    for many in range(most + 1):
        for letters in product(values, repeat=many):
            yield "".join(letters)


def walked(code, column):
    """The state behind a column, by the rows alone."""
    state = 0
    for letter in column:
        state = code.rows[state][code.letters.index(letter)][0]
    return state


def paid(code, column):
    """The length of a column, by the rows and the ends alone."""
    state, total = 0, 0
    for letter in column:
        state, bits = code.rows[state][code.letters.index(letter)]
        total += bits
    return total + code.ends[state]


def blocks(column, size):
    """The column cut into blocks."""
    return [column[at:at + size] for at in range(0, len(column), size)]


def ring(many, values="a", bits=1, end=0):
    """(rows, ends) of states that lead round in a ring by each value."""
    rows = [[((state + 1) % many, bits)] * len(values) for state in range(many)]
    return rows, [end] * many


def check_made(test, code, values, most, length, memory):
    """Check a made code against the length and the memory of each short column."""
    test.assertEqual(code.letters, values)
    numbers = {}
    for column in columns(values, most):
        left = memory(column)
        # a new memory takes the next number: the order of the first columns
        numbers.setdefault(left, len(numbers))
        test.assertEqual(walked(code, column), numbers[left], column)
        test.assertEqual(code.length(column), length(column), column)
        test.assertEqual(paid(code, column), length(column), column)
    test.assertEqual(len(code), len(numbers))
    test.assertEqual(len(code.ends), len(numbers))
