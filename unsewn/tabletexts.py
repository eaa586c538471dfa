"""The lines of a table."""

from unsewn.checks import need
from unsewn.grounds import is_table


def table_lines(table):
    """A tuple of strings, one for each row."""
    need(is_table(table), "table")
    return tuple([" ".join([quotient_text(entry) for entry in row]) for row in table])


def quotient_text(entry):
    """The quotient as its top, / and its bottom."""
    return f"{entry[0]}/{entry[1]}"
