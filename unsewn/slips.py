"""Slips: leaves whose words are told by names."""

from unsewn.checks import need
from unsewn.kinds import is_tuple_of


def is_name(thing):
    """Whether thing is a string, not empty and without spaces."""
    return isinstance(thing, str) and thing != "" and " " not in thing


def is_slip(thing):
    """Whether thing is a slip."""
    return is_tuple_of(is_name, thing) and len(thing) == 2


def are_slips(thing):
    """Whether thing is a tuple of at least one slip."""
    return is_tuple_of(is_slip, thing) and len(thing) > 0


def heap_of(slips):
    """A pair (names, heap): the different names by first appearance, and the heap of the slips."""
    need(are_slips(slips), "slips")
    words = {}
    for slip in slips:
        for name in slip:
            if name not in words:
                words[name] = len(words)
    return tuple(words), (len(words), tuple([(words[first], words[catchword]) for first, catchword in slips]))


def slips_of(names, heap):
    """The slips of the heap's leaves, its words being named so."""
    size, leaves = heap
    need(is_tuple_of(is_name, names) and len(names) == size and len(set(names)) == size, "names")
    return tuple([(names[first], names[catchword]) for first, catchword in leaves])
