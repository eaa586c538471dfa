import random
from itertools import permutations, product

from tests.books import EACH, LOOSE, ODD_VALUES, ONE, RING, SINGLE, random_book, small_heaps, threes
from tests.cases import Case
from unsewn.counts import reading_count
from unsewn.rollcounts import three_rolls
from unsewn.volumes import volume_count

NOT_ENDS = ODD_VALUES + (
    (0, 0), ((0, 0), (0, 0), (0, 0), (0, 0)), ((0,),), ((0, 1, 0),), ((0, 2),), ((-1, 0),), ((0, True),), ((False, 0),), ((0, "1"),),
    ((0, None),), ([0, 1],), [(0, 1)], ((0, 1), None), (None, (0, 1)), (((0, 1),),), ((0, 1), (0, 1), (0, 2)),
)


def is_volume(heap, volume, first, last):
    word = first
    for leaf in volume:
        if heap[1][leaf][0] != word:
            return False
        word = heap[1][leaf][1]
    return word == last


def volumes_plainly(heap, ends):
    """In how many ways the leaves are laid in the volumes, found by cutting all orders in all places."""
    many = len(heap[1])
    count = 0
    for row in permutations(range(many)):
        for cuts in product(range(many + 1), repeat=len(ends) - 1):
            if list(cuts) == sorted(cuts):
                bounds = (0,) + cuts + (many,)
                parts = [row[bounds[at]:bounds[at + 1]] for at in range(len(ends))]
                count += all(is_volume(heap, part, *end) for part, end in zip(parts, ends))
    return count


class TestVolumes(Case):
    def test_examples(self):
        self.assert_exact(volume_count(ONE, ((0, 0), (0, 0), (0, 0))), 60)

    def test_edges(self):
        # A heap without leaves, of which only the empty volumes are left.
        self.assert_exact(volume_count((1, ()), ((0, 0),)), 1)
        self.assert_exact(volume_count((1, ()), ((0, 0), (0, 0), (0, 0))), 1)
        self.assert_exact(volume_count((2, ()), ((0, 1),)), 0)
        # Covers that do not hang together; and words in no leaf and no cover, that are left out.
        self.assert_exact(volume_count((2, ()), ((0, 0), (1, 1))), 1)
        self.assert_exact(volume_count((3, ((0, 2), (2, 0))), ((0, 0),)), 1)
        self.assert_exact(volume_count((3, ((0, 0), (2, 2))), ((0, 0), (2, 2))), 1)
        self.assert_exact(volume_count((3, ((0, 0), (2, 2))), ((0, 0),)), 0)
        self.assert_exact(volume_count((10, ((9, 9),)), ((9, 9),)), 1)
        # Volumes that are () beside ones that are not, told apart though their ends are alike.
        self.assert_exact(volume_count(SINGLE, ((0, 0), (0, 0))), 2)
        self.assert_exact(volume_count(RING, ((0, 0), (1, 1))), 2)
        self.assert_exact(volume_count((2, ((0, 1), (0, 1))), ((0, 1), (0, 1))), 2)
        self.assert_exact(volume_count((2, ((0, 1), (0, 1))), ((0, 1), (0, 1), (1, 1))), 2)

    def test_against_all_ways_to_lay_them(self):
        rng = random.Random(48)
        found = 0
        heaps = list(small_heaps(3, 3)) + list(small_heaps(2, 4))
        for heap in rng.sample(heaps, 150) + [(3, ((0, 1), (1, 2), (0, 2), (2, 0))), LOOSE]:
            pairs = list(product(range(heap[0]), repeat=2))
            for many in (1, 2, 3):
                every = list(product(pairs, repeat=many))
                for ends in rng.sample(every, min(len(every), 25 if len(heap[1]) < 4 else 6)):
                    told = volumes_plainly(heap, ends)
                    found += told > 0
                    self.assert_exact(volume_count(heap, ends), told, (heap, ends))
        self.assertTrue(found > 100, found)

    def test_rolls_are_volumes(self):
        rng = random.Random(49)
        for _ in range(12):
            book = random_book(rng, rng.randrange(2, 9), 16)
            for three in rng.sample(list(threes(book)), 4):
                rest = (book[0], tuple(pair for leaf, pair in enumerate(book[1]) if leaf not in three))
                ends = tuple((book[1][leaf][1], book[1][leaf][0]) for leaf in three)
                self.assertEqual(volume_count(rest, ends), three_rolls(book, three))

    def test_large_heaps(self):
        rng = random.Random(50)
        for _ in range(6):
            book = random_book(rng, 10, 40)
            first, last = book[1][0][1], book[1][0][0]
            self.assertEqual(volume_count((10, book[1][1:]), ((first, last),)), reading_count(book))

    def test_refusals(self):
        for wrong in NOT_ENDS:
            self.assert_not_usable("ends", volume_count, LOOSE, wrong)
        self.assert_not_usable("ends", volume_count, EACH, ((0, 3),))
        self.assert_exact(volume_count(ends=((0, 0),), heap=ONE), 6)
