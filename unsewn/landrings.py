"""The lands of lots with rounds, and what a map asks of them."""

from unsewn.rings import comes_round, rings_of


def rings_by(rounds, step):
    """The set of the lands by the leaf next behind, if step is 1, or by the leaf next ahead, if step is -1."""
    behind = {}
    for leaves in rounds:
        # A leaving one stands first, so those that enter have the odd indices.
        for at in range(1, len(leaves), 2):
            behind[leaves[at]] = leaves[(at + step) % len(leaves)]
    return rings_of(behind)


def land_count(rounds):
    """How many lands of both sorts there are."""
    return len(rings_by(rounds, 1)) + len(rings_by(rounds, -1))


def is_ball(rounds):
    """Whether lots, less leaves between lots, plus lands of both sorts are 2."""
    # Each leaf between lots leaves one and enters one, so it stands in two rounds.
    between = sum([len(leaves) for leaves in rounds]) // 2
    return len(rounds) - between + land_count(rounds) == 2


def has_land(lots, rounds, words):
    """Whether some land comes into the lots of the three words, with one gate each, in this order."""
    doors = [leaves[1] for word in words for lot, leaves in zip(lots, rounds) if word in lot]
    for ring in rings_by(rounds, 1) + rings_by(rounds, -1):
        if all([door in ring for door in doors]) and comes_round(ring, doors):
            return True
    return False


def last_three(cut):
    """The words A, B and C of a book cut."""
    return cut[0] - 3, cut[0] - 2, cut[0] - 1
