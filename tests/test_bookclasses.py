from tests.books import EACH, LOOSE, ODD_VALUES, ONE, PAIR, RING, SAMPLES, SINGLE, random_books, small_heaps
from tests.cases import NOT_NUMBERS, Case
from tests.test_heapchecker import NOT_HEAPS
from unsewn.bookclasses import Book
from unsewn.bookreadings import read_book
from unsewn.booktexts import book_line
from unsewn.errors import NotUsable, Unsound
from unsewn.heapchecker import fault_of
from unsewn.heapcounts import fan_of
from unsewn.makings import hung, parted
from unsewn.turns import backwards

METHODS = ("plain", "many", "text", "fan", "backwards", "hung", "parted", "__eq__")


class TestBooks(Case):
    def assert_unsound(self, heap):
        with self.assertRaises(Unsound) as caught:
            Book(heap)
        self.assert_exact(vars(caught.exception), {"reason": fault_of(heap)})

    def test_examples(self):
        loose = Book(LOOSE)
        self.assert_exact((loose.many(), loose.fan(1), loose.backwards().text()), (5, 2, "2: 0>1 0>0 1>0 1>0 0>1"))
        told = Book((2, ((1, 0), (0, 0), (0, 1), (0, 1), (1, 0), (0, 0))))
        self.assert_exact(loose.hung(0) == told, True)
        with self.assertRaises(Unsound) as caught:
            Book((2, ()))
        self.assert_exact(caught.exception.reason, ("bare", 0))

    def test_it_tells_what_the_functions_tell(self):
        for heap in SAMPLES + tuple(random_books(22, 10, 10, 40)):
            book = Book(heap)
            self.assert_exact((book.plain(), book.many(), book.text()), (heap, len(heap[1]), book_line(heap)))
            for word in range(heap[0]):
                self.assert_exact(book.fan(word), fan_of(heap, word))
                self.assert_exact(book.hung(word).plain(), hung(heap, word))
            for leaf in range(len(heap[1])):
                self.assert_exact(book.parted(leaf).plain(), parted(heap, leaf))
            self.assert_exact(book.backwards().plain(), backwards(heap))
            for made in (book.backwards(), book.hung(0), book.parted(0)):
                self.assertIs(made.__class__, Book)
            self.assert_exact((book.plain(), book.text()), (heap, book_line(heap)))
            self.assert_exact(Book(read_book(book.text())) == book, True)

    def test_equal(self):
        self.assert_exact((Book(RING) == Book((3, ((0, 1), (1, 2), (2, 0)))), Book(RING) != Book(RING)), (True, False))
        self.assert_exact(Book(RING) == Book(RING).backwards().backwards(), True)
        # The leaves are told apart by their order, and a Book is no heap.
        self.assert_exact(Book(RING) == Book((3, ((1, 2), (0, 1), (2, 0)))), False)
        self.assert_exact((Book(ONE) == Book(SINGLE), Book(ONE) != Book(SINGLE)), (False, True))
        for other in ODD_VALUES + (RING, book_line(RING), fault_of, list(RING)):
            self.assert_exact((Book(RING) == other, other == Book(RING), Book(RING) != other), (False, False, True))

    def test_each_method_stands_in_the_class(self):
        for name in METHODS:
            self.assertIn(name, vars(Book))

    def test_which_heaps_are_books(self):
        for heap in tuple(small_heaps(2, 4)) + tuple(small_heaps(3, 3)):
            if fault_of(heap) is None:
                self.assert_exact(Book(heap).plain(), heap)
            else:
                self.assert_unsound(heap)
        self.assert_unsound((10 ** 59, ()))
        self.assert_unsound((10 ** 59, ((0, 0),)))
        self.assert_unsound((4, ((0, 1), (1, 0), (2, 3), (3, 2))))

    def test_refusals(self):
        for wrong in NOT_HEAPS:
            self.assert_not_usable("heap", Book, wrong)
        with self.assertRaises(NotUsable):
            Book(Book(RING))
        book = Book(heap=EACH)
        for wrong in NOT_NUMBERS + (6,):
            self.assert_not_usable("word", book.fan, wrong)
            self.assert_not_usable("word", book.hung, wrong)
            self.assert_not_usable("leaf", book.parted, wrong)
        self.assert_not_usable("word", book.fan, 3)
        self.assert_exact(book.plain(), EACH)
        self.assert_exact((book.fan(word=1), book.hung(word=1).many(), book.parted(leaf=5).many()), (2, 7, 7))
        self.assert_exact(Book(PAIR).fan(0), 1)
