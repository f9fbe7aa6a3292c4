"""What papers are made of: weights and heights of chains, pieces with rings, and their checks."""

from bestcodes.walks import inner_steps, paid_along, place_behind, raised_heights, shortest_word


def states_of(joint, chain):
    """The states of a chain: all but those of other laps."""
    strange = {state: True for lap, states in enumerate(joint.laps) if lap not in chain for state in states}
    return [state for state in range(len(joint.states)) if state not in strange]


def heights_of(steps, kept, spare):
    """Heights for the states that are kept, by ascending states; no ring of these gains anything.

    State 0, the first one, has the height 0; each state that is led to from it within the kept
    ones has the most that is gained on the way. All others lie lower, by more than spare.
    """
    inner = inner_steps(steps, kept)
    depth = spare + sum([abs(gain) for row in inner for _, gain in row.values()])
    return raised_heights(inner, [0, *[-2 * depth - 1 for _ in kept[1:]]])


def are_heights(steps, kept, heights):
    """Whether there is a height for each state that is kept, and no step between them gains more."""
    if len(heights) != len(kept):
        return False
    known = dict(zip(kept, heights))
    for state in kept:
        for goal, gain in steps[state].values():
            if goal in known and known[goal] < known[state] + gain:
                return False
    return True


def are_weights(weights, many):
    """Whether there are so many weights, none below 0 and not all 0."""
    return len(weights) == many and all([weight >= 0 for weight in weights]) and sum(weights) > 0


def are_parts(joint, chains, parts, many, steps_by):
    """Whether there are weights and heights for each chain, so many weights each.

    steps_by(weights) tells the steps that no height may be passed by.
    """
    if len(parts) != len(chains):
        return False
    for chain, (weights, heights) in zip(chains, parts):
        if not are_weights(weights, many):
            return False
        if not are_heights(steps_by(weights), states_of(joint, chain), heights):
            return False
    return True


def pieces_of(joint, paid, mix):
    """The pieces (word, ring, times) of a mix of rings, and the last word behind them."""
    pieces = []
    state = 0
    for (begin, ring, _), times in mix:
        pieces.append((shortest_word(paid, state, (begin,)), ring, times))
        state = begin
    return tuple(pieces), shortest_word(paid, state, joint.good)


def totals_of(joint, paid, pieces, last):
    """What each code of the joint machine pays along the rings, each so many times; None if wrong.

    Wrong are no pieces, a word that leads nowhere, a ring that is empty or does not lead back
    or is not taken, and a last word that does not lead to a good state.
    """
    if not joint.states or not pieces:
        return None
    totals = [0 for code in joint.codes]
    state = 0
    for word, ring, times in pieces:
        state = place_behind(paid, state, word)
        if state is None or ring == "" or times < 1 or place_behind(paid, state, ring) != state:
            return None
        bits = paid_along(paid, state, ring, len(totals))
        totals = [total + times * some for total, some in zip(totals, bits)]
    return totals if place_behind(paid, state, last) in joint.good else None
