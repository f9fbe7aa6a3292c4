"""The best of several codes: whether it ever loses more than a fixed number against another one."""

from bestcodes.errors import Unlike
from bestcodes.joint import Joint
from bestcodes.laps import members
from bestcodes.mixes import Mixes
from bestcodes.papers import are_parts, heights_of, pieces_of, states_of, totals_of
from bestcodes.walks import paid_steps, regained, weighed, weighed_ends


class Never:
    """Weights and heights for each chain, by which the loss never passes a number."""

    def __init__(self, parts):
        self.parts = tuple([(tuple(weights), tuple(heights)) for weights, heights in parts])


class Grows:
    """Words and rings, and a last word: the more rounds of the rings, the greater is the loss."""

    def __init__(self, pieces, last):
        self.pieces = tuple([(word, ring, times) for word, ring, times in pieces])
        self.last = last


def best(codes, base, shape):
    """A Never if what the best of the codes loses against the base has a bound, otherwise a Grows."""
    joint = Joint([*codes, base], shape)
    chains = joint.chains
    mixes = Mixes(joint)
    many = len(codes)
    gains = gains_of(list(range(many)), many)
    parts = []
    for chain in chains:
        weights, mix = mixes.settled(chain, many, gains, 0, 1)
        if mix is not None:
            pieces, last = pieces_of(joint, mixes.paid, mix)
            return Grows(pieces, last)
        parts.append((weights, never_heights(mixes, chain, against_base(weights))))
    return Never(parts)


def gains_of(chosen, base):
    """What each of the chosen codes gains if all codes pay so many bits: its own less those of the base."""

    def gains(paid):
        return [paid[code] - paid[base] for code in chosen]

    return gains


def against_base(weights):
    """The weights of the codes, and that of the base behind them."""
    return [*weights, -sum(weights)]


def never_heights(mixes, chain, weights):
    """Heights for the states of a chain none of whose rings gains by these weights."""
    steps = regained(mixes.paid, lambda bits: weighed(bits, weights))
    ends = [abs(end) for end in weighed_ends(mixes.joint, weights) if end is not None]
    # states that no column of the chain meets come to lie so low that bound never hangs on them
    return heights_of(steps, states_of(mixes.joint, chain), sum(ends))


def is_best(codes, base, shape, paper):
    """Whether a Never or a Grows is right."""
    joint = Joint([*codes, base], shape)
    chains = joint.chains
    paid = paid_steps(joint)
    if isinstance(paper, Grows):
        totals = totals_of(joint, paid, paper.pieces, paper.last)
        return totals is not None and min(totals[:-1]) > totals[-1]

    def steps_by(weights):
        told = against_base(weights)
        return regained(paid, lambda bits: weighed(bits, told))

    return are_parts(joint, chains, paper.parts, len(codes), steps_by)


def bound(codes, base, shape, paper):
    """The number that a right Never shows: no loss is greater; None if the shape has no columns."""
    joint = Joint([*codes, base], shape)
    most = None
    for chain, (weights, heights) in zip(joint.chains, paper.parts):
        ends = weighed_ends(joint, against_base(weights))
        for state, height in zip(states_of(joint, chain), heights):
            if ends[state] is not None:
                # state 0 is the first one of each chain
                loss_here = (height + ends[state] - heights[0]) // sum(weights)
                most = loss_here if most is None else max(most, loss_here)
    return most


def loss(codes, base, column):
    """The least of the lengths by the codes, less that by the base."""
    if any([code.letters != base.letters for code in codes]):
        raise Unlike()
    return min([code.length(column) for code in codes]) - base.length(column)


def as_good(codes, other, shape):
    """Whether the best of the codes never loses more than some number against the other one."""
    joint = Joint([*codes, other], shape)
    chains = joint.chains
    return keep_up(Mixes(joint), chains, list(range(len(codes))), len(codes))


def keep_up(mixes, chains, chosen, base):
    """Whether the chosen codes are as good as the base, all told by their places."""
    if base in chosen:
        return True
    gains = gains_of(chosen, base)
    for chain in chains:
        if mixes.settled(chain, len(chosen), gains, 0, 1)[1] is not None:
            return False
    return True


def needless(codes, shape):
    """The indexes of codes without which the others are as good."""
    joint = Joint(codes, shape)
    chains = joint.chains
    if len(codes) == 1:
        return ()
    mixes = Mixes(joint)
    found = []
    for base in range(len(codes)):
        if keep_up(mixes, chains, [code for code in range(len(codes)) if code != base], base):
            found.append(base)
    return tuple(found)


def least_lots(codes, shape):
    """The lots of codes, by their indexes, that are as good as each code, but no proper part of them is."""
    joint = Joint(codes, shape)
    chains = joint.chains
    mixes = Mixes(joint)
    found = []
    for lot in lots_of(len(codes)):
        # a part of it that is found already is as good, and smaller
        if not any([has_all(lot, part) for part in found]):
            if all_kept_up(mixes, chains, lot, len(codes)):
                found.append(lot)
    return tuple(sorted(found))


def lots_of(many):
    """All ascending tuples of so many indexes that are not empty, the smaller ones first."""
    lots = [tuple(members(number)) for number in range(1, 1 << many)]
    return [lot for size in range(1, many + 1) for lot in lots if len(lot) == size]


def has_all(lot, part):
    """Whether a lot has all indexes of a part."""
    return all([code in lot for code in part])


def all_kept_up(mixes, chains, lot, many):
    """Whether a lot is as good as each of so many codes."""
    for base in range(many):
        if not keep_up(mixes, chains, lot, base):
            return False
    return True
