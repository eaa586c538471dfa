"""Reading the lines of slips."""

from unsewn.checks import need
from unsewn.errors import InvalidText
from unsewn.kinds import are_lines


def read_slips(lines):
    """The slips of these lines."""
    need(are_lines(lines), "lines")
    slips = []
    for line in range(len(lines)):
        parts = lines[line].split(" ")
        if len(parts) != 2:
            raise InvalidText(line, -1)
        if "" in parts:
            raise InvalidText(line, parts.index(""))
        slips.append((parts[0], parts[1]))
    return tuple(slips)
