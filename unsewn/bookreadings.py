"""Reading the line of a heap."""

from unsewn.errors import InvalidRow
from unsewn.kinds import is_heap
from unsewn.numerals import is_numeral


def read_book(line):
    """The heap with that line."""
    heap = heap_by(line) if isinstance(line, str) else None
    if heap is None:
        raise InvalidRow(line)
    return heap


def heap_by(line):
    """The heap with that line, a string; None if there is none."""
    parts = line.split(" ")
    size = parts[0][:-1]
    pairs = [part.split(">") for part in parts[1:]]
    if parts[0] != size + ":" or not is_numeral(size):
        return None
    if not all([len(pair) == 2 and is_numeral(pair[0]) and is_numeral(pair[1]) for pair in pairs]):
        return None
    heap = int(size), tuple([(int(first), int(catchword)) for first, catchword in pairs])
    return heap if is_heap(heap) else None
