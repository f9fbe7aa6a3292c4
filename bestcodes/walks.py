"""Walks through joint machines: what words gain there, the bits of the codes taken by weights.

The steps of a machine are a list: for each state a dict from each value that leads to a
state to the pair (goal, gain). Its ends are a list: for each state the gain at the end,
None if it is not good.
"""


def paid_steps(joint):
    """The steps of the joint machine, each with a tuple of the bits of the codes as its gain."""
    steps = []
    for state, row in zip(joint.states, joint.arrows):
        told = {}
        for value, goal in row:
            bits = [code.run(place, value)[1] for code, place in zip(joint.codes, state[1:])]
            told[value] = (goal, tuple(bits))
        steps.append(told)
    return steps


def weighed_steps(joint, weights):
    """The steps of the joint machine if a step gains the bits of each code times its weight."""
    return regained(paid_steps(joint), lambda bits: weighed(bits, weights))


def regained(steps, worth):
    """The steps if each gains worth(gain) in place of its gain."""
    return [{value: (goal, worth(gain)) for value, (goal, gain) in row.items()} for row in steps]


def leaned(steps, times, less):
    """The steps if each gains so many times as much, less a number."""
    return regained(steps, lambda gain: times * gain - less)


def inner_steps(steps, kept):
    """The steps between the states that are kept, which are told by their places among these."""
    places = {state: place for place, state in enumerate(kept)}
    return [{value: (places[goal], gain) for value, (goal, gain) in steps[state].items() if goal in places}
            for state in kept]


def weighed_ends(joint, weights):
    """The ends of the joint machine if an end gains the bits of each code times its weight."""
    ends = [None for state in joint.states]
    for number in joint.good:
        places = joint.states[number][1:]
        bits = [code.ends[place] for code, place in zip(joint.codes, places)]
        ends[number] = weighed(bits, weights)
    return ends


def weighed(bits, weights):
    """The sum of bits, each times its weight."""
    return sum([weight * some for some, weight in zip(bits, weights)])


def walked(steps, state, word):
    """The pair of the state behind a word and what the word gains; None if it leads nowhere."""
    total = 0
    for letter in word:
        if letter not in steps[state]:
            return None
        state, gain = steps[state][letter]
        total += gain
    return state, total


def place_behind(steps, state, word):
    """The state behind a word; None if it leads nowhere."""
    for letter in word:
        if letter not in steps[state]:
            return None
        state = steps[state][letter][0]
    return state


def paid_along(paid, state, word, many):
    """The bits that each of so many codes pays along a word that leads somewhere."""
    totals = [0 for _ in range(many)]
    for letter in word:
        state, bits = paid[state][letter]
        totals = [total + some for total, some in zip(totals, bits)]
    return totals


def finished(steps, ends, state, word):
    """What a word gains from a state, its end too; None if it does not lead to a good state."""
    told = walked(steps, state, word)
    if told is None or ends[told[0]] is None:
        return None
    return told[1] + ends[told[0]]


def shortest_word(steps, state, goals):
    """The first word that leads from a state to one of the goals; None if none does."""
    words = {state: ""}
    waiting = [state]
    at = 0
    while at < len(waiting):
        place = waiting[at]
        if place in goals:
            return words[place]
        for value, (goal, _) in steps[place].items():
            if goal not in words:
                words[goal] = words[place] + value
                waiting.append(goal)
        at += 1
    return None


def gaining_ring(steps):
    """A pair (state, word) of a word that leads from the state to itself and gains more than 0.

    None if no word does.
    """
    heights = [0 for row in steps]
    ahead = [None for row in steps]
    # each round raises states to what is gained on the way to them, wherever it begins; if the
    # ways ahead ever close to a ring, it gains, and so they do if the rounds do not come to an end
    ring = None
    while ring is None and raised(steps, heights, ahead):
        ring = closed_ring(ahead)
    return ring


def raised(steps, heights, ahead):
    """Whether a round raises any height; ahead gets the step by which each was raised last."""
    higher = False
    for state, row in enumerate(steps):
        for value, (goal, gain) in row.items():
            if heights[state] + gain > heights[goal]:
                heights[goal] = heights[state] + gain
                ahead[goal] = (state, value)
                higher = True
    return higher


def closed_ring(ahead):
    """A ring (state, word) that is met if one goes back again and again; None if there is none.

    ahead has for each state the pair of the state ahead and the value that leads here, or None.
    """
    begun = {}
    for start in range(len(ahead)):
        state = start
        while state not in begun:
            begun[state] = start
            if ahead[state] is not None:
                state = ahead[state][0]
        if ahead[state] is not None and begun[state] == start:
            return state, ring_behind(ahead, state)
    return None


def ring_behind(ahead, begin):
    """The word of the ring on which a state lies, if one goes back from it."""
    state, word = ahead[begin]
    while state != begin:
        state, value = ahead[state]
        word = value + word
    return word


def raised_heights(steps, start):
    """The least heights, none below these to start with, that no step gains more than it climbs.

    No ring gains anything.
    """
    heights = list(start)
    ahead = [None for row in steps]
    while raised(steps, heights, ahead):
        pass
    return heights


def greatest(steps, ends):
    """The pair of the most that a column gains from state 0, and the first column that does.

    There is a state, each leads to a good one, and no ring gains anything.
    """
    # the most behind each state for each number of further values: without gaining
    # rings no state need be met twice
    layers = [ends]
    while len(layers) < len(steps):
        layers.append([layer_most(row, layers[-1]) for row in steps])
    reached = [layer[0] for layer in layers if layer[0] is not None]
    top = max(reached)
    many = [layer[0] for layer in layers].index(top)
    state = 0
    rest = top
    column = ""
    for layer in reversed(layers[:many]):
        value = first_value(steps[state], layer, rest)
        state, gain = steps[state][value]
        rest -= gain
        column += value
    return top, column


def layer_most(row, layer):
    """The most behind a state with this row of steps, if layer has the most behind its goals."""
    told = [gain + layer[goal] for goal, gain in row.values() if layer[goal] is not None]
    return max(told, default=None)


def first_value(row, layer, most):
    """The first value by which this most is reached, if layer has the most behind the goals."""
    return [value for value, (goal, gain) in row.items()
            if layer[goal] is not None and gain + layer[goal] == most][0]
