"""Reading the lines of a map."""

from unsewn.checks import need
from unsewn.errors import InvalidText
from unsewn.kinds import are_lines
from unsewn.numerals import is_numeral


def read_map(lines):
    """The chart with these lines."""
    need(are_lines(lines), "lines")
    lots = []
    rounds = []
    for line in range(len(lines)):
        parts = lines[line].split(" ")
        wrong = [at for at in range(len(parts)) if not is_field(parts[at])]
        if wrong:
            raise InvalidText(line, wrong[0])
        colons = [at for at in range(len(parts)) if parts[at].endswith(":")]
        if len(colons) != 1 or colons[0] == len(parts) - 1:
            raise InvalidText(line, -1)
        numbers = [int(part.rstrip(":")) for part in parts]
        lots.append(tuple(numbers[:colons[0] + 1]))
        rounds.append(tuple(numbers[colons[0] + 1:]))
    return tuple(lots), tuple(rounds)


def is_field(part):
    """Whether the string is a number, a colon behind it or not."""
    return is_numeral(part[:-1] if part.endswith(":") else part)
