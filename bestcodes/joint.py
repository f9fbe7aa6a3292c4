"""Joint machines: a shape and some codes that read a column at once."""

from bestcodes.common import explored
from bestcodes.errors import TooMany, Unlike
from bestcodes.laps import chains_of, laps_of, reach_of

MOST_JOINT_STATES = 60


class Joint:
    """The joint machine of some codes and a shape."""

    def __init__(self, codes, shape):
        if any([code.letters != shape.letters for code in codes]):
            raise Unlike()
        self.codes = tuple(codes)
        self.shape = shape
        states, rows = joined(self.codes, shape)
        self.states = tuple(states)
        self.arrows = tuple([arrows_of(shape.letters, row) for row in rows])
        self.good = tuple([number for number, state in enumerate(states) if state[0] in shape.good])
        self.reach = reach_of([[goal for value, goal in row] for row in self.arrows])
        self.laps = laps_of(self.reach)
        # None if there are too many, which is no error before they are asked
        self.chains_or_none = chains_of(self.reach, self.laps)

    @property
    def chains(self):
        """The chains; TooMany if there are more than can be told."""
        if self.chains_or_none is None:
            raise TooMany("chains")
        return self.chains_or_none


def joined(codes, shape):
    """The states of the joint machine, and for each the goals of the values or None."""
    hopes = hopeful(shape)
    if 0 not in hopes:
        return [], []

    def step(state, value):
        goal = shape.step(state[0], value)
        if goal not in hopes:
            return None
        behind = [code.run(place, value)[0] for code, place in zip(codes, state[1:])]
        return (goal, *behind)

    return explored(shape.letters, (0, *[0 for code in codes]), step, MOST_JOINT_STATES)


def hopeful(shape):
    """A dict whose keys are the states of the shape from which a good one can be reached."""
    ahead = [[] for row in shape.rows]
    for state, row in enumerate(shape.rows):
        for goal in row:
            ahead[goal].append(state)
    hopes = {state: True for state in shape.good}
    waiting = list(shape.good)
    while waiting:
        goal = waiting.pop()
        for state in ahead[goal]:
            if state not in hopes:
                hopes[state] = True
                waiting.append(state)
    return hopes


def arrows_of(letters, goals):
    """The arrows of a state: a pair (value, goal) for each value that leads somewhere."""
    return tuple([(value, goal) for value, goal in zip(letters, goals) if goal is not None])
