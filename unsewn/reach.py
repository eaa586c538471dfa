"""Which words hang together by leaves."""


def reached_from(pairs, word):
    """The set of the words to which one comes from the word along the leaves, whichever way they lead."""
    beside = {}
    for first, catchword in pairs:
        beside.setdefault(first, []).append(catchword)
        beside.setdefault(catchword, []).append(first)
    seen = {word: True}
    waiting = [word]
    while waiting:
        here = waiting.pop()
        for near in beside.get(here, []):
            if near not in seen:
                seen[near] = True
                waiting.append(near)
    return tuple(sorted(seen))
