"""What the document says of joint machines and of papers about them, by the words, rows and ends alone.

Nothing of the package is asked here but the rows, ends and good states of codes and shapes.
"""

from math import gcd

from helpers import gone, walked


def alive(shape):
    """The states of a shape from which a good one can be reached, from all words of all lengths."""
    found = set(shape.good)
    while True:
        more = found | {state for state, row in enumerate(shape.rows) if found & set(row)}
        if more == found:
            return found
        found = more


def told_states(codes, shape):
    """(states, arrows, good) of the joint machine by its words: the first columns, one by one."""
    hopes = alive(shape)
    start = (0,) * (len(codes) + 1)
    numbers, frontier = ({start: 0}, [""]) if 0 in hopes else ({}, [])
    arrows = []
    while frontier:
        column = frontier.pop(0)
        told = []
        for value in shape.letters:
            goal = (gone(shape, column + value), *[walked(code, column + value) for code in codes])
            if goal[0] in hopes:
                if goal not in numbers:
                    numbers[goal] = len(numbers)
                    frontier.append(column + value)
                told.append((value, numbers[goal]))
        arrows.append(tuple(told))
    good = tuple(number for row, number in numbers.items() if row[0] in shape.good)
    return tuple(numbers), tuple(arrows), good


def told_laps(arrows):
    """The laps, from what can be reached."""
    reach = []
    for state in range(len(arrows)):
        met, waiting = set(), [state]
        while waiting:
            for _, goal in arrows[waiting.pop()]:
                if goal not in met:
                    met.add(goal)
                    waiting.append(goal)
        reach.append(met)
    laps = {tuple(goal for goal in sorted(met) if state in reach[goal]) for state, met in enumerate(reach)}
    return tuple(sorted(lap for lap in laps if lap))


def told_chains(states, arrows, good, laps):
    """The chains, from the sets of laps that runs meet, all of them."""
    lap_of = {state: at for at, lap in enumerate(laps) for state in lap}
    if not states:
        return ()
    start = (0, frozenset(lap_of[state] for state in (0,) if state in lap_of))
    met, waiting = {start}, [start]
    while waiting:
        state, passed = waiting.pop()
        for _, goal in arrows[state]:
            told = (goal, passed | ({lap_of[goal]} if goal in lap_of else set()))
            if told not in met:
                met.add(told)
                waiting.append(told)
    ended = {passed for state, passed in met if state in good}
    return tuple(sorted(tuple(sorted(passed)) for passed in ended if not any(passed < other for other in ended)))


class Look:
    """The joint machine of some codes and a shape, and whether papers about it are right."""

    def __init__(self, codes, shape):
        self.codes, self.shape = list(codes), shape
        self.states, self.arrows, self.good = told_states(self.codes, shape)
        self.laps = told_laps(self.arrows)
        self.chains = told_chains(self.states, self.arrows, self.good, self.laps)

    def bits(self, state, value):
        """What each code pays for a value in a state of the joint machine."""
        at = self.shape.letters.index(value)
        return [code.rows[place][at][1] for code, place in zip(self.codes, self.states[state][1:])]

    def ends(self, state):
        """What each code pays at the end in a state of the joint machine."""
        return [code.ends[place] for code, place in zip(self.codes, self.states[state][1:])]

    def kept(self, chain):
        """The states of a chain: those of its laps and all states in no lap."""
        lap_of = {state: at for at, lap in enumerate(self.laps) for state in lap}
        return [state for state in range(len(self.states)) if lap_of.get(state) in (None, *chain)]

    def right_parts(self, parts, many, gain):
        """Whether parts are right, by the gain of an arrow told by gain(weights, bits)."""
        if len(parts) != len(self.chains):
            return False
        for chain, (weights, heights) in zip(self.chains, parts):
            kept = self.kept(chain)
            if len(weights) != many or min(weights) < 0 or set(weights) == {0} or len(heights) != len(kept):
                return False
            for state, height in zip(kept, heights):
                for value, goal in self.arrows[state]:
                    if goal in kept and heights[kept.index(goal)] < height + gain(weights, self.bits(state, value)):
                        return False
        return True

    def run(self, state, word):
        """The state behind a word and what each code pays for it; (None, None) if it leads nowhere."""
        total = [0] * len(self.codes)
        for letter in word:
            goals = dict(self.arrows[state])
            if letter not in goals:
                return None, None
            total = [many + more for many, more in zip(total, self.bits(state, letter))]
            state = goals[letter]
        return state, total

    def paid(self, pieces, last):
        """What each code pays along all rings; None if the pieces are not right."""
        state, total = 0, [0] * len(self.codes)
        for word, ring, times in pieces:
            state, _ = self.run(state, word)
            if state is None or ring == "" or times < 1:
                return None
            goal, bits = self.run(state, ring)
            if goal != state:
                return None
            total = [many + times * more for many, more in zip(total, bits)]
        state, _ = self.run(state, last)
        return total if state in self.good else None

    def right_never(self, paper):
        """Whether a Never is right; the last code is the base."""
        def gain(weights, bits):
            return sum(weight * (some - bits[-1]) for weight, some in zip(weights, bits))
        return self.right_parts(paper.parts, len(self.codes) - 1, gain)

    def right_grows(self, paper):
        """Whether a Grows is right; the last code is the base."""
        total = self.paid(paper.pieces, paper.last) if self.states and paper.pieces else None
        return total is not None and all(some - total[-1] >= 1 for some in total[:-1])

    def shown(self, paper):
        """The number that a right Never shows; the last code is the base."""
        told = []
        for chain, (weights, heights) in zip(self.chains, paper.parts):
            for state, height in zip(self.kept(chain), heights):
                if state in self.good:
                    ends = self.ends(state)
                    more = sum(weight * (some - ends[-1]) for weight, some in zip(weights, ends))
                    told.append((height + more - heights[0]) // sum(weights))
        return max(told, default=None)

    def right_rate(self, paper):
        """Whether a Rate is right."""
        bits, per = paper.bits, paper.per
        if per < 1 or gcd(bits, per) != 1 or not self.states or not paper.pieces:
            return False
        total = self.paid(paper.pieces, paper.last)
        values = sum(times * len(ring) for _, ring, times in paper.pieces)
        if total is None or any(per * some < bits * values for some in total):
            return False

        def gain(weights, told):
            return per * sum(weight * some for weight, some in zip(weights, told)) - bits * sum(weights)
        return self.right_parts(paper.parts, len(self.codes), gain)
