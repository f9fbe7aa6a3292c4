"""Laps and chains of machines: where a column can go round, and which of these it can meet."""

MOST_CHAINS = 64


def reach_of(goals):
    """For each state the set of states that one or more arrows lead to, as a number (number_of).

    goals has for each state the states that its arrows lead to.
    """
    reach = [number_of(row) for row in goals]
    for middle in range(len(goals)):
        reach = [met | reach[middle] if is_in(middle, met) else met for met in reach]
    return reach


def laps_of(reach):
    """The laps, in the order of their least states."""
    found = []
    for state in range(len(reach)):
        lap = [goal for goal in members(reach[state]) if is_in(state, reach[goal])]
        # told once, at the least of its states
        if lap and lap[0] == state:
            found.append(tuple(lap))
    return tuple(found)


def chains_of(reach, laps):
    """The chains if each state is met by some column of the shape; None if there are too many."""
    if reach and not laps:
        return ((),)
    behind = []
    for at, lap in enumerate(laps):
        behind.append(number_of([other for other, goal in enumerate(laps)
                                 if other != at and is_in(goal[0], reach[lap[0]])]))
    # some column meets laps of which each two follow one another: so the greatest such
    # sets are the ways from a first lap to a last one that skip none between
    ways = ways_through(nearest(behind))
    if len(ways) > MOST_CHAINS:
        return None
    return tuple(sorted([tuple(sorted(way)) for way in ways]))


def nearest(behind):
    """For each lap those behind it that lie behind no other lap behind it."""
    found = []
    for met in behind:
        farther = union([behind[lap] for lap in members(met)])
        found.append([lap for lap in members(met) if not is_in(lap, farther)])
    return found


def ways_through(further):
    """The ways from laps that lie behind none to laps behind which there is none.

    further has for each lap those that may come next. If there are more ways
    than there may be chains, only one more is told.
    """
    inner = union([number_of(laps) for laps in further])
    begun = [(lap,) for lap in range(len(further)) if not is_in(lap, inner)]
    found = []
    while begun and len(found) <= MOST_CHAINS:
        way = begun.pop()
        if further[way[-1]]:
            begun.extend([(*way, lap) for lap in further[way[-1]]])
        else:
            found.append(way)
    return found


def number_of(small):
    """A set of small numbers as one number: the sum of the powers of 2 with these exponents."""
    total = 0
    for one in small:
        total = total | (1 << one)
    return total


def is_in(one, number):
    """Whether the set that is told as a number has this member."""
    return number >> one & 1 == 1


def members(number):
    """The members of the set that is told as a number, ascending."""
    return [one for one in range(number.bit_length()) if is_in(one, number)]


def union(numbers):
    """The union of sets that are told as numbers."""
    total = 0
    for number in numbers:
        total = total | number
    return total
