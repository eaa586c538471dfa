"""A desk at which a live heap of its own answers lines."""

from unsewn.checks import need
from unsewn.errors import InvalidRow
from unsewn.eventreadings import parts_by
from unsewn.kinds import is_string
from unsewn.live import LiveHeap
from unsewn.liveevents import is_event
from unsewn.tabletexts import quotient_text

# How many numbers stand behind the words of a desk that are no event's.
DESK_NUMBERS = {"undo": 1, "count": 0, "share": 3, "before": 2, "place": 1, "next": 2, "look": 0, "state": 3}


class Desk:
    """Asks its live heap what lines say, and keeps the answers."""

    def __init__(self, book, cover):
        self._heap = LiveHeap(book, cover)
        self._answers = ()

    def ask(self, line):
        """The answer to a line."""
        answer = answer_of(self._heap, line)
        self._answers = self._answers + (answer,)
        return answer

    def ask_all(self, lines):
        """The tuple of the answers to the lines; if one raises, the desk is as before."""
        need(isinstance(lines, tuple), "lines")
        heap = self._heap.copied()
        answers = tuple([answer_of(heap, line) for line in lines])
        self._heap = heap
        self._answers = self._answers + answers
        return answers

    def log(self):
        """The log of the live heap."""
        return self._heap.log()

    def __eq__(self, other):
        return isinstance(other, Desk) and self._heap == other._heap and self._answers == other._answers

    def __iter__(self):
        return iter(self._answers)


def answer_of(heap, line):
    """What the heap answers to a line, any value, behind what the line has it do."""
    told = parts_by(line) if is_string(line) else None
    if told is None:
        raise InvalidRow(line)
    word, numbers = told
    if is_event((word,) + numbers):
        heap.do((word,) + numbers)
        return str(heap.count_now())
    if DESK_NUMBERS.get(word) != len(numbers):
        raise InvalidRow(line)
    if word == "undo":
        heap.undo(numbers[0])
    if word in ("undo", "count"):
        return str(heap.count_now())
    if word == "look":
        return look_text(heap.look_now())
    if word == "state":
        return state_text(heap, numbers)
    return quotient_text(share_asked(heap, word, numbers))


def look_text(look):
    """The two leaves of a look; "none" for None."""
    return "none" if look is None else f"{look[0]} {look[1]}"


def state_text(heap, three):
    """The state of a three; "absent" if it is not held."""
    states = {held: state for held, state in heap.states()}
    return states.get(three, "absent")


def share_asked(heap, word, numbers):
    """The quotient for which the word asks."""
    if word == "share":
        return heap.share_now(numbers)
    if word == "before":
        return heap.before_now(numbers[0], numbers[1])
    if word == "place":
        return heap.place_now(numbers[0])
    return heap.next_now(numbers)
