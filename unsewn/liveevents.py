"""Events, and logs of them."""

from unsewn.kinds import is_number, is_string, is_tuple_of

# How many numbers stand behind each event's string.
EVENT_NUMBERS = {"find": 2, "bar": 2, "take": 2, "hold": 3, "drop": 3}


def is_event(thing):
    """Whether thing is an event."""
    if not isinstance(thing, tuple) or thing == () or not is_string(thing[0]):
        return False
    return is_tuple_of(is_number, thing[1:]) and EVENT_NUMBERS.get(thing[0]) == len(thing) - 1


def is_log(thing):
    """Whether thing is a tuple of events."""
    return is_tuple_of(is_event, thing)
