"""What a live heap has at one time, triples (found, barred, held), and how events change it."""

from unsewn.barring import count_having
from unsewn.findkinds import are_finds, is_find
from unsewn.glueing import glued_all, rows_with
from unsewn.kinds import is_three
from unsewn.liveevents import is_event
from unsewn.surely import is_sure


def put_to(told, part):
    """The set with the part."""
    return tuple(sorted(told + (part,)))


def taken_from(told, part):
    """The set without the part."""
    return tuple([other for other in told if other != part])


def state_behind(state, event):
    """What there is behind an event that is not refused."""
    found, barred, held = state
    part = event[1:]
    if event[0] == "find":
        return put_to(found, part), barred, held
    if event[0] == "bar":
        return found, put_to(barred, part), held
    if event[0] == "take":
        return taken_from(found, part), taken_from(barred, part), held
    if event[0] == "hold":
        return found, barred, put_to(held, part)
    return found, barred, taken_from(held, part)


def refusal_of(book, state, event):
    """The reason for which an event, any value, is refused; None if it is not."""
    if not is_event(event):
        return "form"
    found, barred, held = state
    part = event[1:]
    if event[0] == "take":
        return None if part in found + barred else "absent"
    if event[0] == "drop":
        return None if part in held else "absent"
    if event[0] == "hold":
        return refusal_to_hold(book, found, held, part)
    return refusal_of_find(book, state, event)


def refusal_of_find(book, state, event):
    """The reason for which an event that finds or bars is refused; None if it is not."""
    found, barred, _ = state
    part = event[1:]
    if not is_find(book, part):
        return "find"
    if part in found + barred or not are_finds(book, put_to(found, part)):
        return "clash"
    if event[0] == "bar" and len(barred) == 4:
        return "many"
    found, barred, _ = state_behind(state, event)
    return "torn" if count_having(book, found, barred) == 0 else None


def refusal_to_hold(book, found, held, three):
    """The reason for which a three is not to be held; None if it is."""
    if not is_three(book, three):
        return "three"
    if three in held:
        return "held"
    state = order_state(book, found, three)
    return None if state == "sure" else state


def order_state(book, found, three):
    """"joined" if two of the three leaves are in one row; else "sure" or "open", as they are in the glued book."""
    made, rows = glued_all(book, found)
    homes = rows_with(rows, three)
    if len(set(homes)) < 3:
        return "joined"
    return "sure" if is_sure(made, homes) else "open"
