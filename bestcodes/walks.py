"""Walks through joint machines: what words gain there, the bits of the codes taken by weights.

The steps of a machine are a list: for each state a dict from each value that leads to a
state to the pair (goal, gain). Its ends are a list: for each state the gain at the end,
None if it is not good.
"""


def weighed_steps(joint, weights):
    """The steps of the joint machine if a step gains the bits of each code times its weight."""
    steps = []
    for state, row in zip(joint.states, joint.arrows):
        told = {}
        for value, goal in row:
            bits = [code.run(place, value)[1] for code, place in zip(joint.codes, state[1:])]
            told[value] = (goal, weighed(bits, weights))
        steps.append(told)
    return steps


def weighed_ends(joint, weights):
    """The ends of the joint machine if an end gains the bits of each code times its weight."""
    ends = [None for state in joint.states]
    for number in joint.good:
        places = joint.states[number][1:]
        bits = [code.ends[place] for code, place in zip(joint.codes, places)]
        ends[number] = weighed(bits, weights)
    return ends


def weighed(bits, weights):
    """The sum of bits, each times its weight."""
    return sum([weight * some for some, weight in zip(bits, weights)])


def walked(steps, state, word):
    """The pair of the state behind a word and what the word gains; None if it leads nowhere."""
    total = 0
    for letter in word:
        if letter not in steps[state]:
            return None
        state, gain = steps[state][letter]
        total += gain
    return state, total


def finished(steps, ends, state, word):
    """What a word gains from a state, its end too; None if it does not lead to a good state."""
    told = walked(steps, state, word)
    if told is None or ends[told[0]] is None:
        return None
    return told[1] + ends[told[0]]


def shortest_word(steps, state, goals):
    """The first word that leads from a state to one of the goals; None if none does."""
    words = {state: ""}
    waiting = [state]
    at = 0
    while at < len(waiting):
        place = waiting[at]
        if place in goals:
            return words[place]
        for value, (goal, _) in steps[place].items():
            if goal not in words:
                words[goal] = words[place] + value
                waiting.append(goal)
        at += 1
    return None


def gaining_ring(steps):
    """A pair (state, word) of a word that leads from the state to itself and gains more than 0.

    None if no word does.
    """
    heights = [0 for row in steps]
    ahead = [None for row in steps]
    raised = None
    # each round raises states to what is gained on the way to them, wherever it begins; as
    # many rounds as there are states come to an end, unless some ring raises for ever
    for _ in range(len(steps)):
        raised = None
        for state, row in enumerate(steps):
            for value, (goal, gain) in row.items():
                if heights[state] + gain > heights[goal]:
                    heights[goal] = heights[state] + gain
                    ahead[goal] = (state, value)
                    raised = goal
        if raised is None:
            return None
    return ring_behind(ahead, raised)


def ring_behind(ahead, state):
    """The ring that is met if one goes back from a state again and again.

    ahead has for each state the pair of the state ahead and the value that leads here.
    """
    # so many steps back lie surely on the ring
    for _ in range(len(ahead)):
        state = ahead[state][0]
    begin = state
    state, word = ahead[begin]
    while state != begin:
        state, value = ahead[state]
        word = value + word
    return begin, word


def greatest(steps, ends):
    """The pair of the most that a column gains from state 0, and the first column that does.

    There is a state, each leads to a good one, and no ring gains anything.
    """
    # the most behind each state for each number of further values: without gaining
    # rings no state need be met twice
    layers = [ends]
    while len(layers) < len(steps):
        layers.append([layer_most(row, layers[-1]) for row in steps])
    reached = [layer[0] for layer in layers if layer[0] is not None]
    top = max(reached)
    many = [layer[0] for layer in layers].index(top)
    state = 0
    rest = top
    column = ""
    for layer in reversed(layers[:many]):
        value = first_value(steps[state], layer, rest)
        state, gain = steps[state][value]
        rest -= gain
        column += value
    return top, column


def layer_most(row, layer):
    """The most behind a state with this row of steps, if layer has the most behind its goals."""
    told = [gain + layer[goal] for goal, gain in row.values() if layer[goal] is not None]
    return max(told, default=None)


def first_value(row, layer, most):
    """The first value by which this most is reached, if layer has the most behind the goals."""
    return [value for value, (goal, gain) in row.items()
            if layer[goal] is not None and gain + layer[goal] == most][0]
