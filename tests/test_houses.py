from itertools import product
from random import Random

from bothandall import houses as module
from bothandall.errors import BadHouse, BadLot, BadTable
from bothandall.houses import (
    all_of, both, depths, greatest, house_holds, is_house, is_table, is_within, judge_house, least, pieces,
    steps_above,
)
from tests import oracle
from tests.anything import any_values, is_equal, is_plain, near
from tests.checking import Case, spread
from tests.samples import FLAT, HOUSES, LARGE, LEANING, ONE, TWO, chain, flat, shuffled, small_tables, spoiled_houses

BAD_TABLES = [
    (), [], (1,), ((),), ((2,),), ((True,),), ((-1,),), ([1],), [(1,)], ((1, 0),), ((1,), (1,)), ((1, 1), (0,)),
    ((1, 1), [0, 1]), [(1, 1), (0, 1)], ((1, True), (0, 1)), ((1, 1), (False, 1)), ((1, 1), (0, 2)), ((1, 1), (0, "1")),
    ((1, 1), (0, 1), ()), ((1, 1), (0, 1), (0, 0)), ((1, 1, 0), (0, 1, 0)), (((1, 1), (0, 1)),), ((1, 1), None),
    chain(25), flat(25), chain(26), tuple(row[:24] for row in chain(25)), chain(25)[:24], list(chain(24)),
    tuple(list(row) for row in chain(24)), (chain(24)[0],) * 25,
]
TABLES = small_tables() + spoiled_houses()
NO_HOUSES = [table for table in TABLES if not oracle.is_house(table)]


def wrong_houses():
    found = BAD_TABLES + any_values() + near(FLAT) + near(TWO) + NO_HOUSES
    return [value for value in found if not oracle.is_house(value)]


def wrong_lots(many):
    return [value for value in any_values() + near(many - 1) if not (type(value) is int and 0 <= value < many)]


class TableTest(Case):
    def test_any_value(self):
        for value in BAD_TABLES + any_values() + near(FLAT) + near(TWO) + near(ONE) + spread(near(chain(24)), 2000):
            self.assertIs(self.told(is_table, thing=value), oracle.is_table(value), value)

    def test_right_ones(self):
        for table in TABLES + HOUSES:
            self.assertIs(self.told(is_table, thing=table), True)

    def test_sizes(self):
        for many in range(1, 30):
            self.assertIs(is_table(chain(many)), many <= 24)
            self.assertIs(is_table(((0,) * many,) * many), many <= 24)
            self.assertIs(is_house(chain(many)), many <= 24)


class IsHouseTest(Case):
    def test_houses(self):
        for house in HOUSES:
            self.assertIs(self.told(is_house, thing=house), True)

    def test_tables(self):
        for table in TABLES:
            self.assertIs(self.told(is_house, thing=table), oracle.is_house(table), table)

    def test_tables_of_four_lots(self):
        chance = Random(2)
        for bits in chance.sample(list(product((0, 1), repeat=12)), 1500):
            # With ones where lots meet themselves, so that many of them are orders.
            rows = [bits[3 * x:3 * x + x] + (1,) + bits[3 * x + x:3 * x + 3] for x in range(4)]
            self.assertIs(is_house(tuple(rows)), oracle.is_house(tuple(rows)), rows)

    def test_any_value(self):
        for value in wrong_houses():
            self.assertIs(self.told(is_house, thing=value), False)

    def test_both_without_all(self):
        # Each two lots have both, but two of them have no all; and turned over.
        table = ((1, 1, 1), (0, 1, 0), (0, 0, 1))
        self.assertIs(is_house(table), False)
        self.assertEqual(judge_house(table)[0], "all")
        self.assertEqual(judge_house(tuple(zip(*table)))[0], "both")


class JudgeHouseTest(Case):
    def test_judged_rightly(self):
        for table in TABLES + HOUSES:
            found = self.told(judge_house, table=table)
            self.assertTrue(is_plain(found))
            self.assertTrue(oracle.house_certificate(table, found), (table, found))
            self.assertIs(house_holds(table, found), True)
            self.assertEqual(found == ("house",), oracle.is_house(table))

    def test_all_certificates_of_small_tables(self):
        for table in small_tables():
            lots = range(len(table))
            told = [("house",)] + [("own", x) for x in lots] + [("jump", *xyz) for xyz in product(lots, repeat=3)]
            told += [(word, x, y) for word in ("round", "both", "all") for x in lots for y in lots]
            for thing in told:
                self.assertIs(house_holds(table, thing), oracle.house_certificate(table, thing), (table, thing))

    def test_all_certificates_of_larger_tables(self):
        for table in spread([table for table in spoiled_houses() + HOUSES if len(table) <= 12], 70):
            lots = range(len(table))
            told = [("house",)] + [("own", x) for x in lots]
            told += [(word, x, y) for word in ("round", "both", "all") for x in lots for y in lots]
            told += spread([("jump", *xyz) for xyz in product(lots, repeat=3)], 300)
            for thing in told:
                self.assertIs(house_holds(table, thing), oracle.house_certificate(table, thing), (table, thing))

    def test_tables_that_are_no_orders(self):
        # Lots that are within one another, or not within themselves, may have several both, or none.
        loop = ((1, 1, 0), (1, 1, 0), (0, 0, 1))
        self.assertIs(house_holds(loop, ("both", 0, 1)), False)
        self.assertIs(house_holds(loop, ("both", 0, 2)), True)
        self.assertIs(house_holds(((0, 0), (0, 0)), ("both", 0, 1)), True)
        self.assertIs(house_holds(((0, 1), (0, 0)), ("both", 0, 1)), True)
        self.assertIs(house_holds(((0, 1), (1, 0)), ("jump", 0, 1, 0)), True)
        self.assertIs(house_holds(((0,),), ("own", 0)), True)

    def test_any_value(self):
        cases = [
            (FLAT, ("house",)), (((1, 1), (1, 1)), ("round", 0, 1)), (((1, 0), (0, 1)), ("both", 1, 0)),
            (((1, 0), (0, 1)), ("all", 0, 1)), (((0, 1), (0, 1)), ("own", 0)),
            (((1, 1, 0), (0, 1, 1), (0, 0, 1)), ("jump", 0, 1, 2)), (((0, 1), (1, 0)), ("jump", 1, 0, 1)),
        ]
        for table, certificate in cases:
            self.assertTrue(oracle.house_certificate(table, certificate))
            swapped = [certificate[1:] + certificate[:1], (certificate,), (certificate[0], certificate[1:])]
            for value in [certificate] + near(certificate) + any_values() + swapped:
                found = self.told(house_holds, table=table, thing=value)
                self.assertIs(found, oracle.house_certificate(table, value), (table, value))

    def test_errors(self):
        wrong = [value for value in BAD_TABLES + any_values() + near(FLAT) + near(TWO) if not oracle.is_table(value)]
        self.refuses_in_order(judge_house, {"table": FLAT}, [("table", BadTable, wrong)])
        for thing in (("house",), ("own", 0), None, [], ("round", 0, 1)):
            self.refuses_in_order(house_holds, {"table": FLAT, "thing": thing}, [("table", BadTable, wrong)])


class LotsTest(Case):
    def test_pairs_of_lots(self):
        for house in HOUSES:
            lots = list(product(range(len(house)), repeat=2))
            for x, y in spread(lots, 60):
                found = self.told(both, house=house, x=x, y=y)
                self.assertTrue(is_equal([found], oracle.both_of(house, x, y)))
                found = self.told(all_of, house=house, x=x, y=y)
                self.assertTrue(is_equal([found], oracle.all_of(house, x, y)))
                self.assertIs(self.told(is_within, house=house, x=x, y=y), house[x][y] == 1)

    def test_all_pairs_of_large_houses(self):
        for house in LARGE[2:4] + [shuffled(flat(24), 8), shuffled(chain(24), 9), shuffled(LARGE[3], 10)]:
            for x, y in product(range(len(house)), repeat=2):
                self.assertEqual([both(house, x, y)], oracle.both_of(house, x, y))
                self.assertEqual([all_of(house, x, y)], oracle.all_of(house, x, y))

    def test_a_lot_and_itself(self):
        for house in (ONE, TWO, LEANING, shuffled(chain(24), 3)):
            for x in range(len(house)):
                self.assertEqual([both(house, x, x), all_of(house, x, x), is_within(house, x, x)], [x, x, True])

    def test_errors(self):
        for function in (both, all_of, is_within):
            self.refuses_in_order(function, {"house": LEANING, "x": 1, "y": 3}, [
                ("house", BadHouse, wrong_houses()), ("x", BadLot, wrong_lots(5)), ("y", BadLot, wrong_lots(5)),
            ])
        self.refuses_in_order(steps_above, {"house": LEANING, "x": 1}, [
            ("house", BadHouse, wrong_houses()), ("x", BadLot, wrong_lots(5)),
        ])

    def test_bounds_of_lots(self):
        for house in (ONE, TWO, chain(24)):
            for x in (-1, len(house), True, False):
                self.refuses(BadLot, x, both, house=house, x=x, y=0)
                self.refuses(BadLot, x, all_of, house=house, x=0, y=x)
                self.refuses(BadLot, x, is_within, house=house, x=x, y=0)
                self.refuses(BadLot, x, steps_above, house=house, x=x)


class ShapeTest(Case):
    def test_least_and_greatest(self):
        for house in HOUSES:
            self.assertTrue(is_equal(self.told(least, house=house), oracle.least(house)))
            self.assertTrue(is_equal(self.told(greatest, house=house), oracle.greatest(house)))

    def test_pieces(self):
        for house in HOUSES:
            if len(house) <= 16 or house in LARGE:
                self.assertTrue(is_equal(self.told(pieces, house=house), oracle.pieces(house)))

    def test_steps(self):
        for house in HOUSES:
            for x in range(len(house)):
                found = self.told(steps_above, house=house, x=x)
                self.assertTrue(is_equal(found, oracle.steps_above(house, x)))

    def test_depths(self):
        for house in HOUSES:
            self.assertTrue(is_equal(self.told(depths, house=house), oracle.depths(house)))

    def test_edges(self):
        self.assertEqual([least(ONE), greatest(ONE), pieces(ONE), depths(ONE), steps_above(ONE, 0)], [0, 0, (), (0,), ()])
        self.assertEqual(depths(chain(24)), tuple(range(24)))
        self.assertEqual(pieces(chain(24)), tuple(range(1, 24)))
        self.assertEqual(pieces(flat(24)), tuple(range(1, 23)))
        self.assertEqual(depths(flat(24)), (0,) + (1,) * 22 + (2,))
        down = tuple(zip(*chain(24)))
        self.assertEqual([least(down), greatest(down), depths(down)], [23, 0, tuple(range(23, -1, -1))])

    def test_errors(self):
        for function in (least, greatest, pieces, depths):
            self.refuses_in_order(function, {"house": FLAT}, [("house", BadHouse, wrong_houses())])


class PlaceTest(Case):
    def test_defined_here(self):
        for name in (
            "is_table", "is_house", "judge_house", "house_holds", "both", "all_of", "is_within", "least", "greatest",
            "pieces", "depths", "steps_above",
        ):
            self.assertEqual(getattr(module, name).__module__, "bothandall.houses")
