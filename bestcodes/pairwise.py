"""Two codes side by side: by how much one is longer than the other on the columns of a shape."""

from bestcodes.joint import Joint
from bestcodes.walks import finished, gaining_ring, greatest, shortest_word, walked, weighed_ends, weighed_steps

# what one code pays counts, less what the other pays
ONE_LESS_OTHER = (1, -1)


class Most:
    """The most by which one code is longer, and the first column on which it is."""

    def __init__(self, bits, column):
        self.bits = bits
        self.column = column


class Rises:
    """Columns head, so many times ring, and tail: the more rings, the longer is one code."""

    def __init__(self, head, ring, tail):
        self.head = head
        self.ring = ring
        self.tail = tail


def longer(one, other, shape):
    """The most by which one code is longer on a column of the shape, or how it rises."""
    joint = Joint([one, other], shape)
    if not joint.states:
        return None
    steps = weighed_steps(joint, ONE_LESS_OTHER)
    found = gaining_ring(steps)
    if found is None:
        bits, column = greatest(steps, weighed_ends(joint, ONE_LESS_OTHER))
        return Most(bits, column)
    state, ring = found
    head = shortest_word(steps, 0, (state,))
    return Rises(head, ring, shortest_word(steps, state, joint.good))


def is_rises(one, other, shape, paper):
    """Whether a Rises is right, for each number of rings."""
    joint = Joint([one, other], shape)
    if not joint.states:
        return False
    steps = weighed_steps(joint, ONE_LESS_OTHER)
    begun = walked(steps, 0, paper.head)
    if begun is None:
        return False
    return rises_from(steps, weighed_ends(joint, ONE_LESS_OTHER), begun[0], paper)


def rises_from(steps, ends, state, paper):
    """Whether one ring more is always longer, if the head leads to this state."""
    seen = set()
    # what one ring more gains hangs on the state ahead of it alone
    while state not in seen:
        seen.add(state)
        told = walked(steps, state, paper.ring)
        if told is None:
            return False
        goal, gain = told
        now = finished(steps, ends, state, paper.tail)
        then = finished(steps, ends, goal, paper.tail)
        if now is None or then is None or gain + then <= now:
            return False
        state = goal
    return True


def apart(one, other, shape):
    """The first column of the shape whose lengths by both codes are not the same, or None."""
    joint = Joint([one, other], shape)
    if not joint.states:
        return None
    return first_uneven(weighed_steps(joint, ONE_LESS_OTHER), weighed_ends(joint, ONE_LESS_OTHER))


def first_uneven(steps, ends):
    """The first column that gains anything but 0, its end too, or None."""
    met = [(0, 0, "")]
    gains = [[] for row in steps]
    gains[0].append(0)
    at = 0
    while at < len(met):
        state, gain, column = met[at]
        if ends[state] is not None and gain + ends[state] != 0:
            return column
        for value, (goal, more) in steps[state].items():
            # two gains for a state are enough: one of them is uneven at each end behind it
            if gain + more not in gains[goal] and len(gains[goal]) < 2:
                gains[goal].append(gain + more)
                met.append((goal, gain + more, column + value))
        at += 1
    return None
