from itertools import product
from random import Random

from bothandall import maps as module
from bothandall.ends import ends_of
from bothandall.errors import BadHouse, BadMap, BadRow
from bothandall.maps import judge_map, led_row, map_holds
from bothandall.rows import behind
from tests import oracle_desks, oracle_rows
from tests.anything import any_values, is_equal, is_plain, near
from tests.checking import Case, spread
from tests.samples import (
    CROOKED, CUBE, FLAT, HOUSES, LEANING, ONE, STRAIGHT, TWO, chain, flat, pairs_house, shuffled, some_plan, some_rows,
)
from tests.test_houses import wrong_houses
from tests.wrong import wrong_rows

THREE = chain(3)
SIXTEEN = [house for house in HOUSES + STRAIGHT + CROOKED if len(house) <= 16]


def good_maps():
    """Good maps of many houses: to one lot, to themselves, to a part, to blocks, into larger houses."""
    found = []
    for seed, house in enumerate(SIXTEEN):
        lots = range(len(house))
        found += [(house, ONE, (0,) * len(house)), (house, house, tuple(lots))]
        for x in spread(lots, 3):
            found.append((house, TWO, tuple(house[x][y] for y in lots)))
            found.append((house, chain(4), (x % 4,) * len(house)))
        for pair in spread([(x, y) for x in lots for y in range(x)], 3):
            parting = oracle_desks.least_kept(house, (pair,))
            found.append((house, oracle_desks.house_of_blocks(house, parting), parting))
        if len(house) <= 8:
            found.append((house, pairs_house(house, TWO), tuple(2 * x + seed % 2 for x in lots)))
            found.append((pairs_house(house, TWO), house, tuple(x for x in lots for _ in range(2))))
    return [some for some in found if oracle_desks.is_good(*some)]


GOOD = good_maps()


def other_maps():
    found = []
    for seed in range(300):
        chance = Random(seed)
        house, other = chance.choice(SIXTEEN), chance.choice(SIXTEEN)
        found.append((house, other, tuple(chance.randrange(len(other)) for _ in house)))
        house, other, lots = chance.choice(GOOD)
        at = chance.randrange(len(lots))
        found.append((house, other, lots[:at] + (chance.randrange(len(other)),) + lots[at + 1:]))
    # Both is kept and all is not, and the other way round.
    found += [(FLAT, TWO, (0, 0, 0, 0, 1)), (FLAT, TWO, (0, 1, 1, 1, 1)), (pairs_house(TWO, TWO), TWO, (0, 0, 0, 1))]
    found += [(pairs_house(TWO, TWO), TWO, (0, 1, 1, 1)), (TWO, TWO, (1, 0)), (THREE, TWO, (0, 1, 0))]
    return found


MAPS = GOOD + other_maps()


class JudgeMapTest(Case):
    def test_judged_rightly(self):
        kinds = set()
        for house, other, lots in MAPS:
            found = self.told(judge_map, house=house, other=other, lots=lots)
            self.assertTrue(is_plain(found))
            self.assertTrue(oracle_desks.map_certificate(house, other, lots, found), (house, other, lots, found))
            self.assertIs(self.told(map_holds, house=house, other=other, lots=lots, thing=found), True)
            self.assertIs(map_holds(house, other, lots, ("good",)), oracle_desks.is_good(house, other, lots))
            kinds.add(found[0])
        self.assertEqual(kinds, {"good", "both", "all"})
        self.assertGreater(len(GOOD), 250)

    def test_what_is_not_kept(self):
        for house, other, lots, right in [
            (FLAT, TWO, (0, 0, 0, 0, 1), "all"), (FLAT, TWO, (0, 1, 1, 1, 1), "both"), (TWO, TWO, (1, 0), "both"),
            (TWO, TWO, (1, 1), "good"), (LEANING, THREE, (0, 1, 1, 0, 1), "good"), (ONE, FLAT, (3,), "good"),
        ]:
            if (house, right) != (TWO, "both"):
                self.assertEqual(judge_map(house, other, lots)[0], right, lots)
            words = ("both", "all", "good")
            pairs = list(product(range(len(house)), repeat=2))
            told = {word for word in words for pair in pairs if map_holds(house, other, lots, (word, *pair))}
            self.assertEqual(told, set() if right == "good" else {"both", "all"} if lots == (1, 0) else {right})

    def test_all_small_maps(self):
        for house, other in product((ONE, TWO, THREE, pairs_house(TWO, TWO), FLAT), (ONE, TWO, THREE, FLAT)):
            for lots in spread(list(product(range(len(other)), repeat=len(house))), 40):
                found = judge_map(house, other, lots)
                self.assertTrue(oracle_desks.map_certificate(house, other, lots, found), (house, other, lots, found))

    def test_all_certificates(self):
        for house, other, lots in spread(MAPS, 60):
            for x, y in spread(list(product(range(-1, len(house) + 1), repeat=2)), 150):
                for word in ("both", "all"):
                    right = oracle_desks.map_certificate(house, other, lots, (word, x, y))
                    self.assertIs(map_holds(house, other, lots, (word, x, y)), right, (house, other, lots, word, x, y))

    def test_any_value(self):
        odd = [("all", 1, 2), ("all", 2, 1), ("all", 1, True), ("all", 1, 1), ("both", 1, 2), ("both", 0, 1), ("both", -1, 0)]
        odd += [("all", (1, 2)), ("all", [1], 2), ("all", 1, 9), ("all", 1, 2, 3), ["all", 1, 2], ("good", 0), "good", ("both", 3, False)]
        cases = [
            (FLAT, TWO, (0, 0, 0, 0, 1)), (FLAT, TWO, (0, 1, 1, 1, 1)), (THREE, TWO, (0, 1, 1)), (TWO, TWO, (1, 0)),
            (ONE, ONE, (0,)), (LEANING, FLAT, (0, 1, 2, 3, 4)),
        ]
        for house, other, lots in cases:
            found = judge_map(house, other, lots)
            for value in [found] + near(found) + odd + any_values():
                right = oracle_desks.map_certificate(house, other, lots, value)
                self.assertIs(self.told(map_holds, house=house, other=other, lots=lots, thing=value), right, (lots, value))

    def test_errors(self):
        right = {"house": THREE, "other": TWO, "lots": (0, 1, 1)}
        odd = [(0, 1), (0, 1, 1, 1), (0, 1, 2), (0, -1, 1), (0, True, 1), [0, 1, 1], (0, (1,), 1), (), {0: 0, 1: 1, 2: 1}]
        wrong_maps = [value for value in odd + any_values() + near((0, 1, 1)) if not oracle_desks.is_map(THREE, TWO, value)]
        wrong = [
            ("house", BadHouse, wrong_houses()), ("other", BadHouse, spread(wrong_houses(), 500)), ("lots", BadMap, wrong_maps),
        ]
        self.refuses_in_order(judge_map, right, wrong)
        for thing in (("good",), None):
            self.refuses_in_order(map_holds, {**right, "thing": thing}, wrong)
        bad = [lots for lots in product((0, 1), repeat=3) if not oracle_desks.is_good(THREE, TWO, lots)]
        wrong[2] = ("lots", BadMap, bad + wrong_maps)
        wrong.append(("row", BadRow, wrong_rows(THREE)))
        self.refuses_in_order(led_row, {**right, "row": (2, 1, 0)}, wrong)


class LedRowTest(Case):
    def test_led(self):
        for seed, (house, other, lots) in enumerate(GOOD):
            for hands in (1, 2 + seed % 4, 6):
                for row in some_rows(house, hands, 2, seed):
                    found = self.told(led_row, house=house, other=other, lots=lots, row=row)
                    self.assertTrue(is_equal(found, tuple(lots[x] for x in row)))

    def test_plans_and_ends_go_along(self):
        for seed, (house, other, lots) in enumerate(spread(GOOD, 120)):
            for hands in (1, 2, 3, 4):
                row = some_rows(house, hands, 2, seed)[seed % 2]
                led = led_row(house, other, lots, row)
                plan = some_plan(hands, 6, seed)
                self.assertEqual(led_row(house, other, lots, behind(house, row, plan)), behind(other, led, plan))
                led_ends = {tuple(lots[x] for x in line) for line in ends_of(house, row)}
                self.assertEqual(ends_of(other, led), tuple(sorted(led_ends)))

    def test_maps_that_are_not_good(self):
        for house, other, lots in MAPS:
            if not oracle_desks.is_good(house, other, lots):
                self.refuses(BadMap, lots, led_row, house=house, other=other, lots=lots, row=(0,))
                self.refuses(BadMap, lots, led_row, house=house, other=other, lots=lots, row=None)

    def test_rows_of_the_first_house(self):
        self.assertEqual(led_row(flat(16), ONE, (0,) * 16, (15, 3)), (0, 0))
        self.refuses(BadRow, (3,), led_row, house=THREE, other=FLAT, lots=(0, 1, 4), row=(3,))
        self.refuses(BadRow, (0,) * 7, led_row, house=THREE, other=FLAT, lots=(0, 1, 4), row=(0,) * 7)
        self.assertEqual(led_row(CUBE, shuffled(CUBE, 2), tuple(0 for _ in CUBE), (7, 7)), (0, 0))
        self.assertTrue(oracle_rows.is_row(CUBE, (7, 7)))


class PlaceTest(Case):
    def test_defined_here(self):
        for name in ("judge_map", "map_holds", "led_row"):
            self.assertEqual(getattr(module, name).__module__, "bothandall.maps")
