import random
from itertools import combinations, product

from tests.books import ODD_VALUES
from tests.cases import NOT_LOTS, NOT_NUMBERS, Case
from unsewn.chordtables import free_lots, is_chords, is_free, pivoted, rank_on

T = ((0, 1, 1), (1, 0, 0), (1, 0, 0))
NO_TABLES = tuple(thing for thing in ODD_VALUES if thing != ()) + (
    ((1,),), ((0, 1), (0, 0)), ((0, 1), (1, 1)), ((0, 1), (1,)), ((0, 1),), ((0, True), (True, 0)), ((0, 2), (2, 0)),
    ((0, -1), (-1, 0)), [[0]], ([0],), ((0,), (0,)), ((0, None), (None, 0)), ((False,),), ((0, 0), "00"), (0,), ("0",),
    ((0, 1, 0), (1, 0, 1), (1, 1, 0)), list(T),
)


def all_tables(many):
    pairs = list(combinations(range(many), 2))
    for bits in product((0, 1), repeat=len(pairs)):
        rows = [[0] * many for _ in range(many)]
        for (one, other), bit in zip(pairs, bits):
            rows[one][other] = rows[other][one] = bit
        yield tuple(tuple(row) for row in rows)


def random_table(rng, many):
    rows = [[0] * many for _ in range(many)]
    for one, other in combinations(range(many), 2):
        rows[one][other] = rows[other][one] = rng.randrange(2)
    return tuple(tuple(row) for row in rows)


def plain_rank(table, lot):
    """The greatest number of chords of which each choice is crossed oddly by some chord of the lot."""
    for many in range(len(lot), 0, -1):
        for chords in combinations(lot, many):
            choices = [choice for k in range(1, many + 1) for choice in combinations(chords, k)]
            if all(any(sum(table[c][d] for d in choice) % 2 for c in lot) for choice in choices):
                return many
    return 0


def subsets(many):
    return [lot for k in range(many + 1) for lot in combinations(range(many), k)]


def plain_pivot(table, one, other):
    rows = [list(row) for row in table]
    many = len(table)
    others = [x for x in range(many) if x not in (one, other)]
    for x in others:
        rows[x][one] = rows[one][x] = table[x][other]
        rows[x][other] = rows[other][x] = table[x][one]
        for y in others:
            if x != y and (table[x][one] and table[y][other]) != (table[x][other] and table[y][one]):
                rows[x][y] = 1 - table[x][y]
    return tuple(tuple(row) for row in rows)


class TestChords(Case):
    def test_examples(self):
        self.assert_exact((rank_on(T, (0, 1, 2)), free_lots(T)), (2, ((), (0, 1), (0, 2))))
        self.assert_exact(pivoted(T, 0, 1), ((0, 1, 0), (1, 0, 1), (0, 1, 0)))

    def test_tables_of_chords(self):
        for many in range(4):
            for table in all_tables(many):
                self.assert_exact(is_chords(table), True)
        for thing in NO_TABLES:
            self.assert_exact(is_chords(thing), False, thing)
        self.assert_exact(is_chords(((0,) * 60,) * 60), True)

    def test_no_chords(self):
        self.assert_exact((is_chords(()), rank_on((), ()), is_free((), ()), free_lots(())), (True, 0, True, ((),)))
        self.assert_exact((rank_on(T, ()), is_free(T, ()), is_free(T, (1,)), rank_on(T, (1, 2))), (0, True, False, 0))

    def test_all_small_tables(self):
        for many in range(5):
            for table in all_tables(many):
                free = []
                for lot in subsets(many):
                    rank = plain_rank(table, lot)
                    self.assert_exact(rank_on(table, lot), rank)
                    self.assert_exact(is_free(table, lot), rank == len(lot))
                    free.extend([lot] if rank == len(lot) else [])
                self.assert_exact(free_lots(table), tuple(sorted(free)))
                for one, other in product(range(many), repeat=2):
                    if table[one][other]:
                        self.assert_exact(pivoted(table, one, other), plain_pivot(table, one, other))

    def test_larger_tables(self):
        rng = random.Random(65)
        for many in (5, 6, 7):
            for _ in range(4):
                table = random_table(rng, many)
                lots = subsets(many)
                free = tuple(sorted(lot for lot in lots if plain_rank(table, lot) == len(lot)))
                self.assert_exact(free_lots(table), free)
                crossing = [pair for pair in combinations(range(many), 2) if table[pair[0]][pair[1]]]
                for one, other in crossing:
                    turned = pivoted(table, one, other)
                    self.assert_exact(turned, plain_pivot(table, one, other))
                    self.assert_exact(pivoted(table, other, one), turned)
                    # Two lots less or more the pivot's chords are free in the one table exactly if in the other.
                    changed = tuple(sorted(tuple(sorted(set(lot) ^ {one, other})) for lot in free))
                    self.assert_exact(free_lots(turned), changed)

    def test_ten_chords(self):
        table = random_table(random.Random(10), 10)
        told = free_lots(table)
        self.assertEqual(list(told), sorted(set(told)))
        for lot in told[::37]:
            self.assert_exact((rank_on(table, lot), is_free(table, lot)), (len(lot), True))

    def test_refusals(self):
        lots = NOT_LOTS + ((3,), (0, 3))
        for call in (rank_on, is_free):
            self.assert_refused_in_order(call, (("table", T), ("lot", (0, 1))), {"table": NO_TABLES, "lot": lots})
        self.assert_refused_in_order(free_lots, (("table", T),), {"table": NO_TABLES})
        good = (("table", T), ("one", 0), ("other", 1))
        numbers = NOT_NUMBERS + (3,)
        self.assert_refused_in_order(pivoted, good, {"table": NO_TABLES, "one": numbers, "other": numbers + (0,)})
        self.assert_not_usable("other", pivoted, T, 1, 2)
        self.assert_not_usable("one", pivoted, (), 0, 0)
        self.assert_not_usable("other", pivoted, ((0,),), 0, 0)
        self.assert_exact(pivoted(other=1, one=0, table=T), pivoted(T, 0, 1))
        self.assert_exact(rank_on(lot=(0, 1), table=T), 2)
