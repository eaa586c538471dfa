"""A live heap: a book with a cover that one follows find by find."""

from unsewn.barring import count_having, orders_having
from unsewn.checks import need
from unsewn.errors import InvalidEvent, NothingToUndo
from unsewn.findkinds import is_find
from unsewn.glueing import glued_all, rows_with
from unsewn.kinds import is_book, is_leaf, is_number, is_three
from unsewn.livestates import order_state, refusal_of, state_behind
from unsewn.looks import nearest_half
from unsewn.maps import map_of
from unsewn.quotients import plus, quotient


class LiveHeap:
    """The readings from the cover that have all finds found and none of the barred, and the threes held."""

    def __init__(self, book, cover):
        need(is_book(book), "book")
        need(is_leaf(book, cover), "cover")
        self._book = book
        self._cover = cover
        self._events = ()
        # What there is at first, and behind each event.
        self._states = (((), (), ()),)

    def do(self, event):
        """Carry out one event."""
        state = self._states[-1]
        reason = refusal_of(self._book, state, event)
        if reason is not None:
            raise InvalidEvent(event, reason)
        self._events = self._events + (event,)
        self._states = self._states + (state_behind(state, event),)

    def do_all(self, events, *, keep=False):
        """Carry out events one by one; if one is refused, those ahead of it stay carried out only if keep is True."""
        need(isinstance(events, tuple), "events")
        need(isinstance(keep, bool), "keep")
        went = self if keep else self.copied()
        for event in events:
            went.do(event)
        self._events = went._events
        self._states = went._states
        return len(events)

    def undo(self, steps=1):
        """Take back the last events carried out."""
        need(is_number(steps), "steps")
        left = len(self._events) - steps
        if left < 0:
            raise NothingToUndo(steps)
        self._events = self._events[:left]
        self._states = self._states[:left + 1]

    def copied(self):
        """A new LiveHeap with the same events carried out."""
        other = LiveHeap(self._book, self._cover)
        other._events = self._events
        other._states = self._states
        return other

    def count_behind(self, events):
        """How many readings it would have behind the events."""
        went = self.copied()
        went.do_all(events)
        return went.count_now()

    def log(self):
        """The events carried out and not undone."""
        return self._events

    def found(self):
        """The set of the finds found."""
        return self._states[-1][0]

    def barred(self):
        """The set of the finds barred."""
        return self._states[-1][1]

    def held(self):
        """The set of the threes held."""
        return self._states[-1][2]

    def states(self):
        """The set of pairs of a three held and its state."""
        return tuple([(three, order_state(self._book, self.found(), three)) for three in self.held()])

    def glued_now(self):
        """The pair of the book glued by the finds found and its rows."""
        return glued_all(self._book, self.found())

    def map_now(self, three):
        """Any map, in the book glued so, of the leaves with the rows of a, b, c; None if there is none."""
        need(is_three(self._book, three), "three")
        made, rows = self.glued_now()
        homes = rows_with(rows, three)
        return map_of(made, homes) if is_three(made, homes) else None

    def count_now(self):
        """How many readings there are."""
        return count_having(self._book, self.found(), self.barred())

    def share_now(self, three):
        """In which share of the readings a, b, c come in this order."""
        need(is_three(self._book, three), "three")
        return self._share_of((three,))

    def before_now(self, one, other):
        """In which share of the readings one is before other."""
        need(is_leaf(self._book, one) and one != self._cover, "one")
        need(is_leaf(self._book, other) and other not in (self._cover, one), "other")
        return self._share_of(((self._cover, one, other),))

    def place_now(self, leaf):
        """The leaf's mean place."""
        need(is_leaf(self._book, leaf), "leaf")
        if leaf == self._cover:
            return 0, 1
        # The cover is ahead of it in all readings, and each other leaf in those with the order cover, other, leaf.
        others = [other for other in range(len(self._book[1])) if other not in (self._cover, leaf)]
        return plus((1, 1), self._share_of([(self._cover, other, leaf) for other in others]))

    def next_now(self, find):
        """Which share of the readings has the find."""
        need(is_find(self._book, find), "find")
        return self._share_with(find, self.count_now())

    def look_now(self):
        """The find whose share is nearest to half, of all with shares other than 0 and 1; None without one."""
        many = self.count_now()
        leaves = range(len(self._book[1]))
        finds = [(e, f) for e in leaves for f in leaves if is_find(self._book, (e, f))]
        return nearest_half([(find, self._share_with(find, many)) for find in finds])

    def _share_of(self, threes):
        """The shares of the readings with the order of each three, added up."""
        return quotient(orders_having(self._book, self.found(), self.barred(), threes), self.count_now())

    def _share_with(self, find, many):
        """Which share of the readings, so many, has the find."""
        pairs = tuple(sorted(set(self.found() + (find,))))
        return quotient(count_having(self._book, pairs, self.barred()), many)

    def __eq__(self, other):
        return (
            isinstance(other, LiveHeap) and self._book == other._book and self._cover == other._cover
            and self._states[-1] == other._states[-1]
        )
