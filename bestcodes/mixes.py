"""Whether rings of a chain can be mixed so that all codes gain, or weights show that they cannot."""

from math import gcd

from bestcodes.laps import members
from bestcodes.simplex import greatest_sum
from bestcodes.walks import gaining_ring, inner_steps, leaned, paid_along, paid_steps, regained, walked, weighed


class Mixes:
    """The rings of a joint machine that have been met so far, by the laps in which they lie.

    A ring is a triple: a state, a word that leads from it to itself, and a tuple of the
    bits that each code pays along the word.
    """

    def __init__(self, joint):
        self.joint = joint
        self.paid = paid_steps(joint)
        self.inner = [inner_steps(self.paid, lap) for lap in joint.laps]
        self.rings = [[self.as_ring(lap, gaining_ring(regained(steps, lambda bits: 1)))]
                      for lap, steps in enumerate(self.inner)]

    def as_ring(self, lap, told):
        """The ring of a pair of a state, by its place in the lap, and a word."""
        place, word = told
        state = self.joint.laps[lap][place]
        return state, word, tuple(paid_along(self.paid, state, word, len(self.joint.codes)))

    def in_order(self, chain):
        """The laps of a chain in the order in which columns meet them."""
        # laps farther on have fewer states behind them
        sizes = [(-len(members(self.joint.reach[self.joint.laps[lap][0]])), lap) for lap in chain]
        return [lap for _, lap in sorted(sizes)]

    def settled(self, chain, many, gains, bits, per):
        """A pair of weights and a mix, one of which is None.

        gains(paid) tells what each of so many codes gains if the codes of the machine pay these
        bits. The mix is a list of pairs of a ring and how many times it is taken, in the order
        in which columns meet them, by which each code gains more than bits / per for each value.
        By the weights, one for each code, no ring of the chain gains more than that.
        """
        if not chain:
            return [1 for _ in range(many)], None
        laps = self.in_order(chain)
        more = True
        weights, mix = None, None
        while more and mix is None:
            met = [ring for lap in laps for ring in self.rings[lap]]
            weights, mix = mixed(met, gains, bits, per)
            if mix is None:
                more = self.enriched(laps, lambda paid: per * weighed(gains(paid), weights) - bits * sum(weights))
        return (weights, None) if mix is None else (None, mix)

    def enriched(self, laps, worth):
        """Whether a lap has a ring that gains if bits that are paid gain their worth; such rings are kept."""
        more = False
        for lap in laps:
            told = richest_ring(regained(self.inner[lap], worth))
            if told is not None:
                self.rings[lap].append(self.as_ring(lap, told))
                more = True
        return more


def richest_ring(steps):
    """A pair (state, word) of a ring that gains the most for each value, None if none gains."""
    found = None
    told = gaining_ring(steps)
    while told is not None:
        found = told
        state, word = told
        told = gaining_ring(leaned(steps, len(word), walked(steps, state, word)[1]))
    return found


def mixed(rings, gains, bits, per):
    """As Mixes.settled, for just these rings; no other weights make the most that one gains less."""
    rows = [gains(paid) for state, word, paid in rings]
    limits = [len(word) for state, word, paid in rings]
    # so much more for each value, so that each code gains along each ring
    lift = 1 + max([0, *[-gain for row in rows for gain in row]])
    lifted = [[gain + lift * limit for gain in row] for row, limit in zip(rows, limits)]
    weights, times, whole = greatest_sum(lifted, limits)
    # for each value of the best mix, the code that gains least in it gains
    # whole / sum(weights), and there is so much lift in that
    if per * whole <= (per * lift + bits) * sum(weights):
        return lowered(weights), None
    taken = [(ring, many) for ring, many in zip(rings, times) if many > 0]
    lowest = lowered([many for _, many in taken])
    return None, [(ring, many) for (ring, _), many in zip(taken, lowest)]


def lowered(numbers):
    """The numbers, each divided by the greatest number that divides all."""
    divisor = 0
    for number in numbers:
        divisor = gcd(divisor, number)
    return [number // divisor for number in numbers]
