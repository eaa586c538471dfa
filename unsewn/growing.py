"""Rows grown element by element, in all ways."""


def grown_rows(start, many, choices):
    """A generator of all tuples of so many elements that begin with start, each choice leading on to at least one.

    choices gives, for a row that is shorter, a list of what can stand next; where these ascend, so do the tuples.
    """
    waiting = [start]
    while waiting:
        row = waiting.pop()
        if len(row) == many:
            yield row
        else:
            # The last one put in is taken out next, so the rows go in with the last choice first.
            waiting.extend([row + (choice,) for choice in reversed(choices(row))])
