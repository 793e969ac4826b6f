from itertools import permutations, product
from random import Random

from bothandall import before as module
from bothandall.before import judge_led, judge_same_end, led_holds, piece_counts, rows_before, same_end_holds
from bothandall.ends import ends_of
from bothandall.errors import BadHouse, BadLine, BadRow, OtherSize
from tests import oracle_rows
from tests.anything import any_values, is_equal, is_plain, near
from tests.checking import Case, spread
from tests.samples import (
    CROOKED, CROWN, CUBE, FLAT, HOUSES, LEANING, ONE, STRAIGHT, TWO, chain, flat, house_of_pieces, pairs_house,
    shuffled, some_rows,
)
from tests.test_houses import wrong_houses
from tests.wrong import wrong_lines, wrong_rows

FOUR = pairs_house(TWO, TWO)
NOT_STRAIGHT = wrong_houses() + CROOKED


class CountsTest(Case):
    def test_counts(self):
        for seed, house in enumerate(HOUSES + STRAIGHT + CROOKED):
            for hands in range(1, 7):
                for row in some_rows(house, hands, 2, seed):
                    found = self.told(piece_counts, house=house, row=row)
                    self.assertTrue(is_equal(found, oracle_rows.counts(house, row)))

    def test_edges(self):
        self.assertEqual(piece_counts(ONE, (0, 0)), ())
        self.assertEqual(piece_counts(TWO, (1,) * 6), (6,))
        self.assertEqual(piece_counts(chain(24), (23,)), (1,) * 23)
        self.assertEqual(piece_counts(FLAT, (1, 4, 1)), (3, 1, 1))

    def test_they_stay_in_straight_houses(self):
        for house in STRAIGHT:
            for row in some_rows(house, 3, 4, 9):
                for meeting in permutations(range(3), 2):
                    self.assertEqual(piece_counts(house, oracle_rows.met(house, row, meeting)), piece_counts(house, row))

    def test_errors(self):
        self.refuses_in_order(piece_counts, {"house": FLAT, "row": (1, 2, 3)}, [
            ("house", BadHouse, wrong_houses()), ("row", BadRow, wrong_rows(FLAT)),
        ])


class SameEndTest(Case):
    def test_judged_rightly(self):
        kinds = set()
        for seed, house in enumerate(STRAIGHT):
            for hands in range(1, 7):
                rows = some_rows(house, hands, 3, seed) + [(0,) * hands, (len(house) - 1,) * hands]
                rows += [oracle_rows.some_end(house, rows[0]), rows[1][::-1]]
                for one, other in product(rows[:1] if len(house) == 24 else rows[:2], rows):
                    found = self.told(judge_same_end, house=house, one=one, other=other)
                    self.assertTrue(is_plain(found))
                    self.assertTrue(oracle_rows.same_end_certificate(house, one, other, found))
                    same = oracle_rows.some_end(house, one) == oracle_rows.some_end(house, other)
                    self.assertEqual(found == ("same",), same)
                    self.assertIs(same_end_holds(house, one, other, found), True)
                    self.assertIs(same_end_holds(house, one, other, ("same",)), same)
                    kinds.add((found[0], hands))
        self.assertEqual(len(kinds), 12)

    def test_all_pairs_of_rows(self):
        house = house_of_pieces(3, [(0, 2)])
        for one, other in product(product(range(len(house)), repeat=2), repeat=2):
            same = ends_of(house, one) == ends_of(house, other)
            self.assertEqual(judge_same_end(house, one, other) == ("same",), same)
            for p in range(len(house)):
                right = oracle_rows.same_end_certificate(house, one, other, ("piece", p))
                self.assertIs(same_end_holds(house, one, other, ("piece", p)), right)

    def test_lots_that_are_no_pieces(self):
        # More hands hold the lot 3 in the second row, but it is no piece.
        self.assertIs(same_end_holds(FOUR, (1, 2), (0, 3), ("piece", 3)), False)
        self.assertIs(same_end_holds(FOUR, (1, 2), (3, 3), ("piece", 3)), False)
        self.assertIs(same_end_holds(FOUR, (1, 2), (3, 3), ("piece", 1)), True)
        self.assertIs(same_end_holds(FOUR, (1, 2), (3, 3), ("piece", 0)), False)

    def test_any_value(self):
        odd = [("piece", True), ("piece", 1), ("piece", (1,)), ("piece",), ("piece", 1, 1), ("same", ()), "same", ["same"]]
        odd += [("piece", 2), ("piece", 4), ("piece", -1), ("piece", "1"), ("piece", None), ("piece", []), ("piece", {})]
        cases = [(FOUR, (1, 2), (2, 2)), (FOUR, (1, 2), (0, 3)), (TWO, (0,), (1,)), (ONE, (0,), (0,)), (CUBE, (1, 2, 4), (7, 0, 0))]
        for house, one, other in cases:
            for certificate in (judge_same_end(house, one, other), ("piece", 1), ("same",)):
                for value in [certificate] + near(certificate) + odd + any_values():
                    found = self.told(same_end_holds, house=house, one=one, other=other, thing=value)
                    self.assertIs(found, oracle_rows.same_end_certificate(house, one, other, value), (one, other, value))

    def test_errors(self):
        right = {"house": FOUR, "one": (1, 2, 0), "other": (2, 2, 1)}
        rows = wrong_rows(FOUR)
        wrong = [("house", BadHouse, NOT_STRAIGHT), ("one", BadRow, rows), ("other", BadRow, rows[::-1])]
        self.refuses_in_order(judge_same_end, right, wrong)
        for thing in (("same",), ("piece", 1), None):
            self.refuses_in_order(same_end_holds, {**right, "thing": thing}, wrong)

    def test_other_sizes(self):
        for function, more in ((judge_same_end, {}), (same_end_holds, {"thing": ("same",)})):
            for one, other in permutations(range(1, 7), 2):
                one, other = (1,) * one, (0,) * other
                self.refuses(OtherSize, other, function, house=FOUR, one=one, other=other, **more)
                self.refuses(BadHouse, FLAT, function, house=FLAT, one=one, other=other, **more)
            # What is no row at all is told ahead of its size.
            self.refuses(BadRow, (4,), function, house=FOUR, one=(0, 0), other=(4,), **more)
            self.refuses(BadRow, (4, 4), function, house=FOUR, one=(4, 4), other=(1,), **more)
            self.refuses(BadRow, [0], function, house=FOUR, one=(0, 0), other=[0], **more)


def some_lines(house, hands, seed):
    return [oracle_rows.some_end(house, row) for row in some_rows(house, hands, 3, seed)]


class RowsBeforeTest(Case):
    def test_rows(self):
        for seed, house in enumerate(STRAIGHT):
            for hands in range(1, 7):
                if len(house) ** hands <= 700:
                    for line in some_lines(house, hands, seed):
                        found = self.told(rows_before, house=house, line=line)
                        self.assertTrue(is_equal(found, oracle_rows.rows_before(house, line)), (house, line))

    def test_near_the_limit(self):
        cases = [
            (shuffled(pairs_house(chain(3), chain(5)), 2), 3), (CUBE, 4), (house_of_pieces(3, [(0, 2)]), 4),
            (shuffled(FOUR, 1), 6), (shuffled(chain(17), 3), 3), (CROWN, 2), (chain(5), 5),
        ]
        for house, hands in cases:
            self.assertLessEqual(len(house) ** hands, 5000)
            for line in some_lines(house, hands, 4)[:2]:
                found = rows_before(house, line)
                self.assertTrue(is_equal(found, oracle_rows.rows_before(house, line)))
                self.assertEqual(list(found), sorted(set(found)))
                self.assertIn(line, found)

    def test_edges(self):
        self.assertEqual(rows_before(ONE, (0,) * 6), ((0,) * 6,))
        self.assertEqual(rows_before(TWO, (0, 1)), ((0, 1), (1, 0)))
        self.assertEqual(len(rows_before(chain(6), tuple(range(6)))), 720)
        self.assertEqual(rows_before(CUBE, (0, 7)), tuple((x, 7 - x) for x in range(8)))
        for x in range(24):
            self.assertEqual(rows_before(chain(24), (x,)), ((x,),))
        # With six hands each piece is counted up to six.
        self.assertEqual(rows_before(FOUR, (3,) * 6), ((3,) * 6,))
        self.assertEqual(len(rows_before(FOUR, (0, 0, 0, 3, 3, 3))), 400)

    def test_errors(self):
        lines = wrong_lines(FOUR, (0, 2, 3)) + [(1, 2), (3, 0), (0, 1, 2), (0,) * 7, (), (4,), (True,), [0], (0, True)]
        lines = [line for line in lines if not oracle_rows.is_line(FOUR, line)]
        self.refuses_in_order(rows_before, {"house": FOUR, "line": (0, 2, 3)}, [
            ("house", BadHouse, NOT_STRAIGHT), ("line", BadLine, lines),
        ])


def pairs_of_rows():
    """Triples of a house and two rows of as many hands, near the limit of 700 rows, too."""
    found = []
    chance = Random(6)
    for house in [ONE, TWO, chain(3), FOUR, FLAT, LEANING, CUBE, flat(6), shuffled(LEANING, 4), flat(24), CROOKED[4], chain(24)]:
        for hands in range(1, 7):
            if len(house) ** hands <= 700:
                for one in some_rows(house, hands, 3, hands):
                    plan = [tuple(chance.sample(range(hands), 2)) for _ in range(6)] if hands > 1 else []
                    found += [(house, one, oracle_rows.behind(house, one, plan[:many])) for many in (0, 1, 2, 3, 6)]
                    found += [(house, one, other) for other in some_rows(house, hands, 3, hands + 1)]
    return found + [(FOUR, (0, 1, 2, 3), (3, 2, 1, 0)), (TWO, (0, 0, 0, 1, 1, 1), (1, 1, 1, 0, 0, 0))]


class LedTest(Case):
    def test_judged_rightly(self):
        kinds = set()
        for house, one, other in pairs_of_rows():
            found = self.told(judge_led, house=house, one=one, other=other)
            self.assertTrue(is_plain(found))
            self.assertTrue(oracle_rows.led_certificate(house, one, other, found), (house, one, other, found))
            self.assertIs(self.told(led_holds, house=house, one=one, other=other, thing=found), True)
            kinds.add((found[0], len(found[1]) if found[0] == "plan" else len(one)))
        self.assertTrue({("plan", many) for many in range(5)} <= kinds, kinds)
        self.assertTrue({("closed", hands) for hands in range(1, 7)} <= kinds, kinds)

    def test_a_row_led_to_itself(self):
        for house in (ONE, FLAT, CUBE, chain(24)):
            for hands in (1, 2):
                for row in some_rows(house, hands, 4, 2):
                    self.assertEqual(judge_led(house, row, row), ("plan", ()))
                    self.assertIs(led_holds(house, row, row, ("plan", ())), True)
                    self.assertIs(led_holds(house, row, row, ("plan", ((0, 1),))), False)
                    self.assertIs(led_holds(house, row, row, ("closed", (row,))), False)

    def test_as_few_meetings_as_any(self):
        self.assertIs(led_holds(FOUR, (1, 2), (3, 0), ("plan", ((1, 0),))), True)
        self.assertIs(led_holds(FOUR, (1, 2), (3, 0), ("plan", ((0, 1), (1, 0)))), False)
        self.assertIs(led_holds(FOUR, (1, 2), (3, 0), ("plan", ((0, 1),))), False)
        meetings = list(permutations(range(3), 2))
        plans = [()] + [(one,) for one in meetings] + list(product(meetings, repeat=2))
        for one, other in (((1, 2, 3), (0, 1, 4)), ((1, 2, 3), (3, 0, 4)), ((0, 1, 4), (4, 0, 1)), ((1, 3, 3), (3, 0, 4))):
            for plan in plans:
                right = oracle_rows.led_certificate(FLAT, one, other, ("plan", plan))
                self.assertIs(led_holds(FLAT, one, other, ("plan", plan)), right, (one, other, plan))

    def test_other_closed_tuples(self):
        pairs = list(product(range(4), repeat=2))
        some = [((0, 3), (3, 0)), ((3, 0), (0, 3)), ((0, 3),), (), ((0, 3), (3, 0), (3, 0)), ((0, 0), (0, 3), (3, 0))]
        some += [tuple(sorted({(0, 3), (3, 0), more})) for more in pairs] + [((0, 0), (3, 3)), tuple(pairs)]
        some += [tuple(pair for pair in pairs if pair != left) for left in pairs]
        some += [tuple(pair for pair in pairs if pair not in ((1, 2), (2, 1)))]
        for one, other in (((0, 3), (1, 2)), ((3, 0), (0, 0)), ((1, 2), (3, 3)), ((0, 0), (1, 2))):
            for rows in some:
                right = oracle_rows.led_certificate(FOUR, one, other, ("closed", rows))
                self.assertIs(led_holds(FOUR, one, other, ("closed", rows)), right, (one, other, rows))

    def test_large_closed_tuples(self):
        rows = tuple(product(range(24), repeat=2))
        rest = tuple(row for row in rows if row not in ((3, 7), (7, 3)))
        for house in (chain(24), tuple(zip(*chain(24)))):
            self.assertIs(led_holds(house, (5, 6), (3, 7), ("closed", rest)), True)
            less = tuple(row for row in rest if row != (6, 5))
            self.assertIs(led_holds(house, (5, 6), (3, 7), ("closed", less)), False)
            self.assertIs(led_holds(house, (4, 4), (3, 7), ("closed", less)), False)
            self.assertIs(led_holds(house, (5, 6), (3, 7), ("closed", rows)), False)
            self.assertIs(led_holds(house, (7, 3), (3, 7), ("closed", rest)), False)

    def test_any_value(self):
        odd = [("plan", ((1, True),)), ("plan", ((1, 0),) * 21), ("plan", [(1, 0)]), ("plan", ((1, 1),)), ("plan", ((1, 2),))]
        odd += [("closed", ((0, 3), [3, 0])), ("closed", [(0, 3), (3, 0)]), ("closed", ((0, 3), (3, False))), ("closed", ())]
        odd += [("closed", ((0, 3), (3, 0), (4, 4))), ("closed", ((-1, 0), (0, 3), (3, 0))), ("closed", ((0, 3), (3, 0), None))]
        odd += [("closed", ((0, 3), (3, 0), (3, 0, 0))), ("closed", ((0,), (0, 3), (3, 0))), ("closed", ((0, 3), (3, 0)), ())]
        cases = [(FOUR, (1, 2), (3, 0)), (FOUR, (0, 3), (1, 2)), (TWO, (1,), (0,)), (ONE, (0,), (0,)), (FLAT, (0, 1, 1), (0, 1, 2))]
        for house, one, other in cases:
            for certificate in (judge_led(house, one, other), ("plan", ((1, 0),)), ("closed", ((0, 3), (3, 0)))):
                for value in [certificate] + near(certificate) + odd + any_values():
                    found = self.told(led_holds, house=house, one=one, other=other, thing=value)
                    right = oracle_rows.led_certificate(house, one, other, value)
                    self.assertIs(found, right, (house, one, other, value))

    def test_errors(self):
        right = {"house": FLAT, "one": (1, 2, 3), "other": (0, 2, 4)}
        rows = wrong_rows(FLAT)
        wrong = [("house", BadHouse, wrong_houses()), ("one", BadRow, rows), ("other", BadRow, rows[::-1])]
        self.refuses_in_order(judge_led, right, wrong)
        for thing in (("plan", ((0, 1),)), None):
            self.refuses_in_order(led_holds, {**right, "thing": thing}, wrong)

    def test_other_sizes(self):
        for function, more in ((judge_led, {}), (led_holds, {"thing": ("plan", ())})):
            for one, other in permutations(range(1, 7), 2):
                one, other = (1,) * one, (0,) * other
                self.refuses(OtherSize, other, function, house=TWO, one=one, other=other, **more)
            self.refuses(BadRow, (5,), function, house=FLAT, one=(0, 0), other=(5,), **more)
            self.refuses(BadRow, (5, 0), function, house=FLAT, one=(5, 0), other=(1,), **more)
            self.refuses(BadHouse, None, function, house=None, one=(5, 0), other=(1,), **more)


class HousesTest(Case):
    def test_any_house(self):
        # Of the six functions just three ask for a straight house.
        for house in spread(CROOKED, 20):
            row = some_rows(house, 2, 1, 3)[0]
            self.assertEqual(judge_led(house, row, row), ("plan", ()))
            self.assertEqual(piece_counts(house, row), oracle_rows.counts(house, row))
            self.refuses(BadHouse, house, judge_same_end, house=house, one=row, other=row)
            self.refuses(BadHouse, house, same_end_holds, house=house, one=row, other=row, thing=("same",))
            self.refuses(BadHouse, house, rows_before, house=house, line=(0,))


class PlaceTest(Case):
    def test_defined_here(self):
        for name in (
            "judge_same_end", "same_end_holds", "rows_before", "piece_counts", "judge_led", "led_holds",
        ):
            self.assertEqual(getattr(module, name).__module__, "bothandall.before")
