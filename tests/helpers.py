"""What the tests share: all short columns, machines made anyhow, and what the document says of them."""

from itertools import product

from bestcodes.codes import Code
from bestcodes.shapes import Shape


def columns(values, most):
    """All columns of at most so many values, in the order of the document."""
    for many in range(most + 1):
        for letters in product(values, repeat=many):
            yield "".join(letters)


def walked(code, column):
    """The state behind a column, by the rows alone."""
    state = 0
    for letter in column:
        state = code.rows[state][code.letters.index(letter)][0]
    return state


def paid(code, column):
    """The length of a column, by the rows and the ends alone."""
    state, total = 0, 0
    for letter in column:
        state, bits = code.rows[state][code.letters.index(letter)]
        total += bits
    return total + code.ends[state]


def gone(shape, column):
    """The state of a shape behind a column, by the rows alone."""
    state = 0
    for letter in column:
        state = shape.rows[state][shape.letters.index(letter)]
    return state


def blocks(column, size):
    """The column cut into blocks."""
    return [column[at:at + size] for at in range(0, len(column), size)]


def ring(many, values="a", bits=1, end=0):
    """(rows, ends) of states that lead round in a ring by each value."""
    rows = [[((state + 1) % many, bits)] * len(values) for state in range(many)]
    return rows, [end] * many


def ring_code(many, values="a", bits=1, end=0):
    """A code with states that lead round in a ring."""
    return Code(values, *ring(many, values, bits, end))


def ring_shape(many, values="a", good=(0,)):
    """A shape with states that lead round in a ring."""
    return Shape(values, [[(state + 1) % many] * len(values) for state in range(many)], good)


def finite_shape(values, words):
    """The shape of just these columns, by the rows of a tree."""
    places = sorted({word[:many] for word in words for many in range(len(word) + 1)} | {""},
                    key=lambda word: (len(word), word))
    dead = len(places)
    rows = [[places.index(word + value) if word + value in places else dead for value in values]
            for word in places]
    return Shape(values, rows + [[dead] * len(values)], [places.index(word) for word in words])


def layers(many, extra=False, lone=False):
    """A shape with two states that have laps in each layer, so that the chains double with each layer.

    The state 0 has no lap. With extra, its value a leads to a lap of its own, one chain more.
    With lone, no state has a lap but the last ones.
    """
    dead = 2 * many + 1
    rows = [[dead + 1 if extra else dead, 1, 2]]
    for layer in range(1, many + 1):
        for state in (2 * layer - 1, 2 * layer):
            if layer == many:
                rows.append([state, dead, dead])
            else:
                rows.append([dead if lone else state, 2 * layer + 1, 2 * layer + 2])
    rows.append([dead] * 3)
    return Shape("abc", rows + [[dead + 1, dead, dead]], [*range(dead), dead + 1])


def any_code(draw, values, many, most=9):
    """A code made anyhow."""
    rows = [[(draw.randrange(many), draw.randint(0, most)) for _ in values] for _ in range(many)]
    return Code(values, rows, [draw.randint(0, most) for _ in range(many)])


def any_shape(draw, values, many):
    """A shape made anyhow, often with a state that is not good and is never left."""
    rows = [[draw.randrange(many) for _ in values] for _ in range(many)]
    good = [state for state in range(many) if draw.random() < 0.6]
    if draw.random() < 0.5 and many > 1:
        rows[many - 1] = [many - 1] * len(values)
        good = [state for state in good if state != many - 1]
    return Shape(values, rows, good)


def check_made(test, code, values, most, length, memory):
    """Check a made code against the length and the memory of each short column."""
    test.assertEqual(code.letters, values)
    numbers = {}
    for column in columns(values, most):
        left = memory(column)
        # a new memory takes the next number: the order of the first columns
        numbers.setdefault(left, len(numbers))
        test.assertEqual(walked(code, column), numbers[left], column)
        test.assertEqual(code.length(column), length(column), column)
        test.assertEqual(paid(code, column), length(column), column)
    test.assertEqual(len(code), len(numbers))
    test.assertEqual(len(code.ends), len(numbers))


def check_shape(test, shape, values, most, has, memory):
    """Check a made shape against what it has and the memory of each short column."""
    test.assertIsInstance(shape, Shape)
    test.assertEqual(shape.letters, values)
    numbers = {}
    for column in columns(values, most):
        left = memory(column)
        numbers.setdefault(left, len(numbers))
        test.assertEqual(gone(shape, column), numbers[left], column)
        test.assertIs(shape.has(column), bool(has(column)), column)
        test.assertEqual(numbers[left] in shape.good, bool(has(column)), column)
    test.assertEqual(len(shape), len(numbers))


def sparse_shape(draw, values, many):
    """A shape whose values lead on, seldom back: many laps and many chains."""
    rows = [[draw.choice((state, min(many - 1, state + draw.randint(1, 3)))) for _ in values]
            for state in range(many)]
    if draw.random() < 0.3:
        rows[many - 1] = [draw.randrange(many) for _ in values]
    return Shape(values, rows, [state for state in range(many) if draw.random() < 0.5])


def balanced_codes(draw, values, many, count, slips=0):
    """So many codes and a base behind them that a mix of the codes comes to, but for bounded bits.

    With slips, some values of the base pay one bit less or more.
    """
    rows = [[draw.randrange(many) for _ in values] for _ in range(many)]
    weights = [draw.randint(0, 3) for _ in range(count - 1)] + [draw.randint(1, 3)]
    bits = [[[draw.randint(0, 9) for _ in values] for _ in rows] for _ in weights]
    lifts = [draw.randint(0, 5) for _ in rows]
    codes = []
    for told in bits:
        codes.append(Code(values, [[(goal, sum(weights) * (some + 6)) for goal, some in zip(*pair)]
                                   for pair in zip(rows, told)], [draw.randint(0, 9) for _ in rows]))
    base = []
    for state, row in enumerate(rows):
        mean = [sum(weight * (told[state][at] + 6) for weight, told in zip(weights, bits)) for at in range(len(values))]
        base.append([(goal, some + lifts[goal] - lifts[state]) for goal, some in zip(row, mean)])
    for _ in range(slips):
        state, at = draw.randrange(many), draw.randrange(len(values))
        base[state][at] = (base[state][at][0], base[state][at][1] + draw.choice((-1, 1)))
    return [*codes, Code(values, base, [draw.randint(0, 9) for _ in rows])]


def flat(values, bits, end=0):
    """The code in which each value pays the same."""
    return Code(values, [[(0, bits)] * len(values)], [end])


def prices(**bits):
    """The code in which each value pays its bits."""
    values = "".join(sorted(bits))
    return Code(values, [[(0, bits[value]) for value in values]], [0])
