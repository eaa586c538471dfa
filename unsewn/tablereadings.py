"""Reading the lines of a table."""

from unsewn.checks import need
from unsewn.errors import InvalidText
from unsewn.kinds import are_lines, is_quotient
from unsewn.numerals import is_numeral


def quotient_by(part):
    """The quotient that is written so; None if there is none."""
    top, _, bottom = part.partition("/")
    figures = top[1:] if top.startswith("-") else top
    if top == "-0" or not is_numeral(figures) or not is_numeral(bottom):
        return None
    entry = int(top), int(bottom)
    return entry if is_quotient(entry) else None


def read_table(lines):
    """The table whose lines these are."""
    need(are_lines(lines), "lines")
    rows = []
    for line in range(len(lines)):
        row = [quotient_by(part) for part in lines[line].split(" ")]
        if None in row:
            raise InvalidText(line, row.index(None))
        if len(row) != len(lines):
            raise InvalidText(line, -1)
        rows.append(tuple(row))
    return tuple(rows)
