"""Rows grown element by element, in all ways: all of them, and one by its number."""


def grown_rows(start, many, choices):
    """A generator of all tuples of so many elements that begin with start, each choice leading on to at least one.

    choices gives, for a row that is shorter, a list of what can stand next; where these ascend, so do the tuples.
    """
    waiting = [start]
    while waiting:
        row = waiting.pop()
        if len(row) == many:
            yield row
        else:
            # The last one put in is taken out next, so the rows go in with the last choice first.
            waiting.extend([row + (choice,) for choice in reversed(choices(row))])


def grown_at(start, many, choices, count, index):
    """The tuple that grown_rows yields at the index; count tells of a row how many of them begin with it."""
    row = start
    ahead = index
    while len(row) < many:
        row, ahead = one_further(row, choices(row), count, ahead)
    return row


def one_further(row, choices, count, ahead):
    """The row with the choice of the tuple that has so many ahead of it; and how many are left ahead then."""
    for choice in choices:
        many = count(row + (choice,))
        if ahead < many:
            break
        ahead -= many
    return row + (choice,), ahead


def grown_number(row, begun, choices, count):
    """The index at which grown_rows yields the row, of which so many elements are its start."""
    number = 0
    for at in range(begun, len(row)):
        told = choices(row[:at])
        number += sum([count(row[:at] + (choice,)) for choice in told[:told.index(row[at])]])
    return number
