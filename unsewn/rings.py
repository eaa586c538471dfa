"""Rings: of what stands next behind what, and in which order they come to three."""


def rings_of(behind):
    """The rings of a dict that gives each of its keys another one, none twice: a set of tuples from the least on."""
    rings = []
    seen = {}
    for start in sorted(list(behind)):
        ring = []
        at = start
        while at not in seen:
            seen[at] = True
            ring.append(at)
            at = behind[at]
        if ring:
            rings.append(tuple(ring))
    return tuple(rings)


def comes_round(ring, three):
    """Whether one who goes round the ring from the first of the three comes to the second ahead of the third."""
    a, b, c = [ring.index(part) for part in three]
    many = len(ring)
    return (b - a) % many < (c - a) % many
