"""The line of a heap."""


def book_line(heap):
    """The heap's size and a colon, and for each leaf a blank and its two words with > between."""
    size, leaves = heap
    return f"{size}:" + "".join([f" {first}>{catchword}" for first, catchword in leaves])
