"""What one look at the paper would settle."""

from unsewn.nexts import next_rows
from unsewn.quotients import is_less, quotient


def look_shares(book):
    """The set of pairs (find, share) of all finds whose share is neither 0 nor 1."""
    rows = next_rows(book)
    looks = []
    for e in range(len(rows)):
        looks.extend([((e, f), share) for f, share in rows[e] if share != (0, 1) and share != (1, 1)])
    return tuple(looks)


def best_look(book):
    """The find whose share is nearest to one half, the least of several; None without one."""
    return nearest_half(look_shares(book))


def nearest_half(looks):
    """Of pairs (find, share), the first find whose share is nearest to one half, but neither 0 nor 1; else None."""
    best = None
    # So far apart, doubled, one half is from 0 and from 1.
    least = (1, 1)
    for find, share in looks:
        distance = quotient(abs(2 * share[0] - share[1]), share[1])
        if is_less(distance, least):
            best = find
            least = distance
    return best
