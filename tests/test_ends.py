from itertools import combinations_with_replacement, permutations, product
from random import Random

from bothandall import ends as module
from bothandall.ends import (
    ceilings, end_holds, ends_hold, ends_of, floors, judge_end, judge_ends, judge_one_end, one_end_holds,
)
from bothandall.errors import BadHouse, BadLine, BadRow
from tests import oracle_rows
from tests.anything import any_values, is_equal, is_plain, near
from tests.checking import Case, spread
from tests.samples import (
    CROOKED, CUBE, FLAT, HOUSES, LEANING, ONE, SMALL, STRAIGHT, TWO, chain, flat, pairs_house, shared_sets_house,
    shuffled, some_rows,
)
from tests.test_houses import wrong_houses
from tests.wrong import wrong_lines, wrong_rows

# Rows of five hands of which many sorted rows come.
WIDE = [
    (shared_sets_house(24, 405), (19, 3, 2, 7, 15)), (shared_sets_house(24, 165), (18, 9, 14, 13, 8)),
    (flat(24), (3, 7, 1, 20, 11)), (pairs_house(CUBE, chain(3)), (2, 4, 9, 14, 19)),
]


def rows_with_ends():
    found = [(house, row) for house, row in WIDE[2:]]
    for seed, house in enumerate(HOUSES[:60] + STRAIGHT + CROOKED):
        for hands in range(1, 6):
            found += [(house, row) for row in some_rows(house, hands, 2, seed + 100 * hands)]
    return found


ROWS = rows_with_ends()


def some_lines(house, hands):
    """Lines of so many lots, from all over them."""
    lots = sorted(range(len(house)), key=lambda x: -sum(house[x]))
    rows = combinations_with_replacement(lots, hands)
    return spread([row for row in rows if oracle_rows.is_line(house, row)], 6)


class EndsOfTest(Case):
    def test_ends(self):
        many = set()
        for house, row in ROWS:
            found = self.told(ends_of, house=house, row=row)
            if len(row) < 5 or len(house) < 13:
                self.assertTrue(is_equal(found, oracle_rows.ends(house, row)), (house, row))
            many.add(len(found))
        self.assertTrue({1, 2, 3} <= many)

    def test_many_sorted_rows(self):
        for house, row in WIDE:
            rows = oracle_rows.sorted_rows(house, row)
            right = [one for one in rows if not oracle_rows.strange_pairs(house, one)]
            found = self.told(ends_of, house=house, row=row)
            self.assertTrue(is_equal(found, tuple(sorted(oracle_rows.line_of(house, one) for one in right))))
        self.assertEqual([len(oracle_rows.sorted_rows(*wide)) for wide in WIDE[:2]], [156, 151])

    def test_ends_ascend_as_tuples(self):
        # The lots of a line stand in the order of the house, the lines in that of Python.
        for seed in range(30):
            house = shuffled(shared_sets_house(12, seed), seed)
            for row in some_rows(house, 3, 3, seed):
                found = ends_of(house, row)
                self.assertEqual(list(found), sorted(set(found)))
                self.assertEqual(found, oracle_rows.ends(house, row))

    def test_one_or_two_hands(self):
        for house in SMALL[:12]:
            for row in spread(list(product(range(len(house)), repeat=2)), 30):
                self.assertEqual(len(ends_of(house, row)), 1)
            for x in range(len(house)):
                self.assertEqual(ends_of(house, (x,)), ((x,),))
                self.assertEqual(judge_one_end(house, (x,)), ("one", (x,)))

    def test_the_order_of_hands_does_not_matter(self):
        for row in permutations((1, 2, 3)):
            self.assertEqual(ends_of(FLAT, row), ((0, 1, 4), (0, 2, 4), (0, 3, 4)))
            self.assertEqual(ends_of(LEANING, row), ((0, 1, 4), (0, 2, 4)))

    def test_errors(self):
        for function in (ends_of, judge_one_end, floors, ceilings):
            self.refuses_in_order(function, {"house": FLAT, "row": (1, 2, 3)}, [
                ("house", BadHouse, wrong_houses()), ("row", BadRow, wrong_rows(FLAT)),
            ])


class JudgeEndTest(Case):
    def test_judged_rightly(self):
        kinds = set()
        for house, row in Random(4).sample(ROWS, 330) + WIDE:
            ends = ends_of(house, row)
            for line in list(ends[:3]) + some_lines(house, len(row)):
                found = self.told(judge_end, house=house, row=row, line=line)
                self.assertTrue(is_plain(found))
                self.assertTrue(oracle_rows.end_certificate(house, row, line, found), (house, row, line, found))
                self.assertIs(self.told(end_holds, house=house, row=row, line=line, thing=found), True)
                self.assertEqual(found[0] == "plan", line in ends)
                kinds.add((found[0], len(row)))
        self.assertTrue({("plan", 5), ("closed", 5), ("plan", 1), ("closed", 1)} <= kinds)

    def test_all_plans_of_two_meetings(self):
        meetings = list(permutations(range(3), 2))
        plans = [()] + [(one,) for one in meetings] + list(product(meetings, repeat=2))
        for house, row in ((FLAT, (1, 2, 3)), (LEANING, (3, 1, 2)), (FLAT, (1, 0, 3)), (CUBE, (1, 2, 4))):
            lines = list(oracle_rows.ends(house, row)) + [(0, 0, 0), tuple(sorted(row))]
            for line in [line for line in lines if oracle_rows.is_line(house, line)]:
                for plan in plans:
                    right = oracle_rows.end_certificate(house, row, line, ("plan", plan))
                    self.assertIs(end_holds(house, row, line, ("plan", plan)), right, (row, line, plan))

    def test_idle_meetings_are_no_strange_ones(self):
        self.assertIs(end_holds(FLAT, (1, 2), (0, 4), ("plan", ((0, 1),))), True)
        self.assertIs(end_holds(FLAT, (1, 2), (0, 4), ("plan", ((1, 0),))), True)
        self.assertIs(end_holds(FLAT, (1, 2), (0, 4), ("plan", ((0, 1), (0, 1)))), False)
        self.assertIs(end_holds(FLAT, (0, 4), (0, 4), ("plan", ((0, 1),))), False)
        self.assertIs(end_holds(FLAT, (4, 0), (0, 4), ("plan", ())), True)
        self.assertIs(end_holds(FLAT, (1, 2), (0, 4), ("plan", ())), False)

    def test_other_closed_tuples(self):
        pairs = list(combinations_with_replacement(range(5), 2))
        rows = ((1, 2), (0, 4))
        some = [tuple(sorted(rows + more)) for more in product(pairs, repeat=1)]
        some += [tuple(sorted(set(rows + more))) for more in product(pairs, repeat=2)] + [tuple(pairs)]
        some += [tuple(one for one in pairs if one != left) for left in pairs] + [rows, rows[::-1], rows[:1], rows[1:], ()]
        some += [((0, 4), (2, 1)), ((0, 4), (1, 2), (1, 2)), ((0, 4), (0, 4), (1, 2)), ((1, 2), (4, 0)), ((1, 2), (0, 4), (1, 3))]
        for line in ((0, 0), (0, 4), (3, 3), (0, 1)):
            for rows in some:
                right = oracle_rows.end_certificate(FLAT, (2, 1), line, ("closed", rows))
                self.assertIs(end_holds(FLAT, (2, 1), line, ("closed", rows)), right, (line, rows))

    def test_large_closed_tuples(self):
        house = chain(24)
        rows = tuple(combinations_with_replacement(range(24), 2))
        rest = tuple(row for row in rows if row != (3, 7))
        self.assertIs(end_holds(house, (5, 6), (3, 7), ("closed", rest)), True)
        self.assertIs(end_holds(house, (5, 6), (3, 7), ("closed", rows)), False)
        self.assertIs(end_holds(house, (7, 3), (3, 7), ("closed", rest)), False)
        for house, row in WIDE[:2]:
            line = some_lines(house, 5)[0]
            rows = tuple(sorted(oracle_rows.sorted_rows(house, row)))
            self.assertIs(end_holds(house, row, line, ("closed", rows)), True)
            for at in range(len(rows)):
                self.assertIs(end_holds(house, row, line, ("closed", rows[:at] + rows[at + 1:])), False)

    def test_any_value(self):
        cases = [
            (FLAT, (1, 2, 3), (0, 3, 4)), (FLAT, (1, 2), (0, 0)), (LEANING, (1, 3, 2), (0, 1, 4)), (TWO, (1,), (0,)),
            (LEANING, (2, 3), (0, 4)), (ONE, (0,), (0,)),
        ]
        odd = [("plan", ((0, 1),) * 21), ("plan", ((True, False),)), ("plan", ((0, 0),)), ("plan", ((0, 6),)), ("closed", ())]
        odd += [("closed", ((0, 0, 0),)), ("closed", ((0, True),)), ("closed", [(0, 4), (1, 2)]), ("closed", ((0, 4), [1, 2]))]
        odd += [("closed", ((False, 4), (1, 2))), ("closed", ((0, 4), (1, 2), (5, 5))), ("closed", ((-1, 4), (0, 4), (1, 2)))]
        odd += [("closed", ((0, 4), (1, 2), None)), ("closed", ((0, 4), (1, 2), (1, 2, 3))), ("plan", ((0, 1), None))]
        odd += [("closed", ((0,), (0, 4), (1, 2))), ("closed", ((0, 0, 4), (0, 4), (1, 2))), ("closed", ((0, 4), (1, 2), (3,)))]
        for house, row, line in cases:
            for certificate in (judge_end(house, row, line), ("plan", ((0, 1),)), ("closed", ((0, 4), (1, 2)))):
                for value in [certificate] + near(certificate) + odd + any_values():
                    found = self.told(end_holds, house=house, row=row, line=line, thing=value)
                    right = oracle_rows.end_certificate(house, row, line, value)
                    self.assertIs(found, right, (house, row, line, value))

    def test_errors(self):
        lines = wrong_lines(FLAT, (0, 3, 4)) + [(0, 4), (0, 1, 4, 4), (0, 4, 1), (1, 2, 4), (0, 0, True), (0, 0, 5)]
        wrong = [
            ("house", BadHouse, wrong_houses()), ("row", BadRow, wrong_rows(FLAT)), ("line", BadLine, lines),
        ]
        right = {"house": FLAT, "row": (1, 2, 3), "line": (0, 3, 4)}
        self.refuses_in_order(judge_end, right, wrong)
        for thing in (("plan", ((0, 1),)), None):
            self.refuses_in_order(end_holds, {**right, "thing": thing}, wrong)


class OneEndTest(Case):
    def test_judged_rightly(self):
        kinds = set()
        for house, row in ROWS + WIDE:
            found = self.told(judge_one_end, house=house, row=row)
            self.assertTrue(is_plain(found))
            ends = ends_of(house, row)
            self.assertEqual(found == ("one", ends[0]), len(ends) == 1)
            if len(ends) > 1:
                self.assertTrue(oracle_rows.one_end_certificate(house, row, found), (house, row, found))
            self.assertIs(self.told(one_end_holds, house=house, row=row, thing=found), True)
            self.assertIs(one_end_holds(house, row, ("one", ends[-1])), len(ends) == 1)
            kinds.add((found[0], len(row)))
        self.assertTrue({("two", 3), ("two", 4), ("two", 5), ("one", 5)} <= kinds)
        self.assertFalse({("two", 1), ("two", 2)} & kinds)

    def test_straight_ones(self):
        for house in STRAIGHT:
            for hands in range(1, 6):
                for row in some_rows(house, hands, 2, hands):
                    line = oracle_rows.some_end(house, row)
                    self.assertEqual(judge_one_end(house, row), ("one", line))
                    self.assertEqual([floors(house, row), ceilings(house, row)], [line, line])

    def test_all_plans_of_one_meeting(self):
        plans = [()] + [(one,) for one in permutations(range(3), 2)] + [((0, 1), (1, 2)), ((0, 1), (0, 1))]
        for house, row in ((FLAT, (1, 2, 3)), (LEANING, (1, 2, 3)), (LEANING, (1, 3, 2)), (FLAT, (0, 1, 4)), (CUBE, (1, 2, 4))):
            for one, other in product(plans, repeat=2):
                right = oracle_rows.one_end_certificate(house, row, ("two", one, other))
                self.assertIs(one_end_holds(house, row, ("two", one, other)), right, (house, row, one, other))

    def test_any_value(self):
        odd = [("one", (0, True)), ("one", (False, 4)), ("one", [0, 4]), ("one", (4, 0)), ("one", (0, 4, 4)), ("one", (0,))]
        odd += [("two", ((0, 1),), ((1, 2),)), ("two", ((0, 1),), ((0, 1),)), ("two", ((0, 1),)), ("one", (0, 1, 4))]
        odd += [("two", ((0, 1),) * 21, ((1, 2),)), ("two", ((0, True),), ((1, 2),)), ("two", [(0, 1)], ((1, 2),)), ("one", (0, 4))]
        odd += [("two", ((1, 2),), [(0, 1)]), ("two", ((1, 2),), None), ("two", None, ((1, 2),)), ("two", (), ()), ("one", ())]
        for house, row in ((FLAT, (1, 2, 3)), (LEANING, (3, 2, 1)), (FLAT, (1, 2)), (TWO, (1,)), (TWO, (0,)), (LEANING, (0, 2, 1))):
            certificate = judge_one_end(house, row)
            for value in [certificate] + near(certificate) + odd + any_values():
                found = self.told(one_end_holds, house=house, row=row, thing=value)
                self.assertIs(found, oracle_rows.one_end_certificate(house, row, value), (house, row, value))

    def test_errors(self):
        for thing in (("one", (0, 1, 4)), ("two", ((0, 1),), ((1, 2),)), None):
            self.refuses_in_order(one_end_holds, {"house": FLAT, "row": (1, 2, 3), "thing": thing}, [
                ("house", BadHouse, spread(wrong_houses(), 400)), ("row", BadRow, wrong_rows(FLAT)),
            ])


class JudgeEndsTest(Case):
    def test_judged_rightly(self):
        kinds = set()
        for house in HOUSES + STRAIGHT + CROOKED:
            found = self.told(judge_ends, house=house)
            self.assertTrue(is_plain(found))
            self.assertTrue(oracle_rows.ends_certificate(house, found), (house, found))
            self.assertIs(self.told(ends_hold, house=house, thing=found), True)
            self.assertIs(ends_hold(house, ("straight",)), oracle_rows.is_straight(house))
            kinds.add(found[0])
        self.assertEqual(kinds, {"straight", "row"})

    def test_straight_exactly_if_one_end(self):
        for house in (TWO, chain(3), CUBE, FLAT, LEANING, pairs_house(TWO, chain(3))):
            rows = product(range(len(house)), repeat=3)
            one = all(len(oracle_rows.ends(house, row)) == 1 for row in rows)
            self.assertIs(judge_ends(house) == ("straight",), one)

    def test_all_rows(self):
        plans = (((0, 1),), ((0, 2),), ((2, 1),), ())
        for house in (FLAT, LEANING):
            for row in product(range(5), repeat=3):
                for one, other in product(plans, repeat=2):
                    right = oracle_rows.ends_certificate(house, ("row", row, one, other))
                    self.assertIs(ends_hold(house, ("row", row, one, other)), right, (house, row, one, other))

    def test_other_numbers_of_hands(self):
        plans = (((0, 1),), ((1, 2),))
        self.assertIs(ends_hold(FLAT, ("row", (1, 2, 3), *plans)), True)
        for row in ((1, 2, 3, 0), (1, 2, 3, 4), (1, 2), (1, 2, 3, 3)):
            self.assertIs(ends_hold(FLAT, ("row", row, *plans)), False)

    def test_any_value(self):
        odd = [("row", (1, 2, 3), ((0, 1),), ((1, 2),)), ("row", (1, 2, True), ((0, 1),), ((1, 2),)), ("row", (1, 2, 3))]
        odd += [("row", (1, 2, 3), ((0, 1),), ((0, 1),)), ("row", [1, 2, 3], ((0, 1),), ((1, 2),)), "straight", ("straight", 1)]
        odd += [("row", (1, 3, 2), ((0, 1),), ((1, 2),)), ("row", (1, 2, 5), ((0, 1),), ((1, 2),)), ["straight"]]
        for house in (FLAT, LEANING, TWO, ONE, CUBE, shuffled(LEANING, 3)):
            for certificate in (judge_ends(house), ("row", (1, 2, 3), ((0, 2),), ((1, 2),))):
                for value in [certificate] + near(certificate) + odd + any_values():
                    found = self.told(ends_hold, house=house, thing=value)
                    self.assertIs(found, oracle_rows.ends_certificate(house, value), (house, value))

    def test_errors(self):
        self.refuses_in_order(judge_ends, {"house": FLAT}, [("house", BadHouse, wrong_houses())])
        for thing in (("straight",), None, ("row", (1, 2, 3), ((0, 1),), ((1, 2),))):
            self.refuses_in_order(ends_hold, {"house": FLAT, "thing": thing}, [("house", BadHouse, wrong_houses())])


class BoundsTest(Case):
    def test_bounds(self):
        for house, row in ROWS + WIDE:
            low = self.told(floors, house=house, row=row)
            high = self.told(ceilings, house=house, row=row)
            self.assertTrue(is_equal(low, oracle_rows.floors(house, row)), (house, row))
            self.assertTrue(is_equal(high, oracle_rows.ceilings(house, row)), (house, row))
            for line in ends_of(house, row):
                for x, lot, y in zip(low, line, high):
                    self.assertEqual([house[x][lot], house[lot][y]], [1, 1])

    def test_six_hands(self):
        for house in (FLAT, LEANING, flat(24), CUBE, chain(24), CROOKED[4]):
            for row in some_rows(house, 6, 4, 11):
                self.assertEqual(floors(house, row), oracle_rows.floors(house, row))
                self.assertEqual(ceilings(house, row), oracle_rows.ceilings(house, row))

    def test_edges(self):
        self.assertEqual([floors(ONE, (0,)), ceilings(ONE, (0,))], [(0,), (0,)])
        for x in range(5):
            self.assertEqual([floors(LEANING, (x,)), ceilings(LEANING, (x,))], [(x,), (x,)])
        self.assertEqual([floors(FLAT, (1, 1, 2)), ceilings(FLAT, (1, 1, 2))], [(0, 1, 4), (0, 1, 4)])
        self.assertEqual([floors(LEANING, (1, 2, 3)), ceilings(LEANING, (1, 2, 3))], [(0, 1, 4), (0, 2, 4)])


class PlaceTest(Case):
    def test_defined_here(self):
        for name in (
            "ends_of", "judge_end", "end_holds", "judge_one_end", "one_end_holds", "judge_ends", "ends_hold", "floors",
            "ceilings",
        ):
            self.assertEqual(getattr(module, name).__module__, "bothandall.ends")
