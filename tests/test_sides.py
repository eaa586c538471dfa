import random
from itertools import product

from tests.cases import Case
from tests.test_chordtables import NO_TABLES, T, all_tables, random_table
from unsewn.sides import odd_round, sides_of


class TestSides(Case):
    def check(self, table):
        """Just one of the two is there, and it is as told; return whether there are sides."""
        many = len(table)
        sides, ring = sides_of(table), odd_round(table)
        self.assertNotEqual(sides is None, ring is None, table)
        if ring is None:
            self.assertEqual((sides.__class__, len(sides)), (tuple, many))
            self.assertTrue(all(side.__class__ is int and side in (0, 1) for side in sides))
            for one, other in product(range(many), repeat=2):
                self.assertFalse(table[one][other] == 1 and sides[one] == sides[other])
            return True
        self.assertIs(ring.__class__, tuple)
        self.assertTrue(len(ring) >= 3 and len(ring) % 2 == 1 and len(set(ring)) == len(ring), ring)
        self.assertTrue(all(chord.__class__ is int and 0 <= chord < many for chord in ring))
        for at in range(len(ring)):
            self.assertEqual(table[ring[at - 1]][ring[at]], 1)
        return False

    def test_edges(self):
        self.assert_exact((sides_of(()), odd_round(())), ((), None))
        self.assert_exact(odd_round(T), None)
        self.assertTrue(self.check(((0,),)))
        three = ((0, 1, 1), (1, 0, 1), (1, 1, 0))
        self.assert_exact((sides_of(three), sorted(odd_round(three))), (None, [0, 1, 2]))

    def test_all_small_tables(self):
        for many in range(6):
            for table in all_tables(many):
                has_sides = any(
                    all(table[one][other] == 0 or sides[one] != sides[other] for one in range(many) for other in range(one))
                    for sides in product((0, 1), repeat=many))
                self.assertEqual(self.check(table), has_sides)

    def test_long_rounds(self):
        for many in range(3, 12):
            round_table = tuple(
                tuple(1 if (one - other) % many in (1, many - 1) else 0 for other in range(many)) for one in range(many))
            self.assertEqual(self.check(round_table), many % 2 == 0)
            if many % 2 == 1:
                self.assertEqual(len(odd_round(round_table)), many)

    def test_larger_tables(self):
        rng = random.Random(67)
        told = [self.check(random_table(rng, 10)) for _ in range(20)]
        for _ in range(60):
            sides = [rng.randrange(2) for _ in range(10)]
            rows = [list(row) for row in random_table(rng, 10)]
            for one, other in product(range(10), repeat=2):
                if sides[one] == sides[other] or rng.random() < 0.4:
                    rows[one][other] = rows[other][one] = 0
            told.append(self.check(tuple(tuple(row) for row in rows)))
        self.assertEqual(set(told), {True, False})
        self.assertTrue(all(told[20:]))

    def test_refusals(self):
        for call in (sides_of, odd_round):
            self.assert_refused_in_order(call, (("table", T),), {"table": NO_TABLES})
            self.assert_exact(call(table=()), call(()))
