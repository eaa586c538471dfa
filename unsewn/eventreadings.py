"""Reading the lines of events."""

from unsewn.checks import need
from unsewn.errors import InvalidRow, InvalidText
from unsewn.kinds import is_string, is_tuple_of
from unsewn.liveevents import EVENT_NUMBERS, is_event
from unsewn.numerals import is_numeral


def parts_by(line):
    """A pair of the line's first part and the tuple of the numbers behind; None if a later part is no number."""
    parts = line.split(" ")
    if not all([is_numeral(part) for part in parts[1:]]):
        return None
    return parts[0], tuple([int(part) for part in parts[1:]])


def read_event(line):
    """The event with that line."""
    told = parts_by(line) if is_string(line) else None
    if told is None or not is_event((told[0],) + told[1]):
        raise InvalidRow(line)
    return (told[0],) + told[1]


def read_log(lines):
    """The log with these lines."""
    need(is_tuple_of(is_string, lines), "lines")
    log = []
    for line in range(len(lines)):
        parts = lines[line].split(" ")
        if parts[0] not in EVENT_NUMBERS:
            raise InvalidText(line, 0)
        wrong = [at for at in range(1, len(parts)) if not is_numeral(parts[at])]
        if wrong:
            raise InvalidText(line, wrong[0])
        if len(parts) - 1 != EVENT_NUMBERS[parts[0]]:
            raise InvalidText(line, -1)
        log.append(read_event(lines[line]))
    return tuple(log)
