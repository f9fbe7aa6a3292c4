"""Rates: how many bits for each value the best of several codes pays on long columns, at worst."""

from math import gcd

from bestcodes.joint import Joint
from bestcodes.mixes import Mixes
from bestcodes.papers import are_parts, heights_of, pieces_of, states_of, totals_of
from bestcodes.walks import leaned, paid_steps, regained, weighed


class Rate:
    """The rate bits / per, pieces and last that come up to it, parts that show that nothing passes it."""

    def __init__(self, bits, per, pieces, last, parts):
        self.bits = bits
        self.per = per
        self.pieces = tuple([(word, ring, times) for word, ring, times in pieces])
        self.last = last
        self.parts = tuple([(tuple(weights), tuple(heights)) for weights, heights in parts])


def rate(codes, shape):
    """The rate of the codes over the shape; None if there is no lap."""
    joint = Joint(codes, shape)
    chains = joint.chains
    if not joint.laps:
        return None
    mixes = Mixes(joint)
    # below all rates, so that some mix of the first chain comes above it
    bits, per, worst = -1, 1, None
    found = []
    for chain in chains:
        weights, mix = mixes.settled(chain, len(codes), all_paid, bits, per)
        while mix is not None:
            worst = mix
            bits, per = mean_of(mix)
            weights, mix = mixes.settled(chain, len(codes), all_paid, bits, per)
        found.append(weights)
    pieces, last = pieces_of(joint, mixes.paid, worst)
    parts = []
    for chain, weights in zip(chains, found):
        # found perhaps for a lower rate, and so right for this one
        steps = steps_above(mixes.paid, weights, bits, per)
        parts.append((weights, heights_of(steps, states_of(joint, chain), 0)))
    return Rate(bits, per, pieces, last, parts)


def all_paid(paid):
    """What the codes gain if they pay these bits: just these."""
    return paid


def mean_of(mix):
    """The pair (bits, per), in lowest terms, of the least that a code pays for each value of a mix."""
    totals = [0 for bits in mix[0][0][2]]
    values = 0
    for (_, word, paid), times in mix:
        totals = [total + times * bits for total, bits in zip(totals, paid)]
        values += times * len(word)
    divisor = gcd(min(totals), values)
    return min(totals) // divisor, values // divisor


def steps_above(paid, weights, bits, per):
    """The steps by which no ring gains if the rate of the codes by these weights is at most bits / per."""
    return leaned(regained(paid, lambda told: weighed(told, weights)), per, bits * sum(weights))


def is_rate(codes, shape, paper):
    """Whether a Rate is right."""
    joint = Joint(codes, shape)
    chains = joint.chains
    paid = paid_steps(joint)
    bits, per = paper.bits, paper.per
    if per < 1 or gcd(bits, per) != 1:
        return False
    totals = totals_of(joint, paid, paper.pieces, paper.last)
    values = sum([times * len(ring) for _, ring, times in paper.pieces])
    if totals is None or per * min(totals) < bits * values:
        return False

    def steps_by(weights):
        return steps_above(paid, weights, bits, per)

    return are_parts(joint, chains, paper.parts, len(codes), steps_by)
