from functools import lru_cache
from itertools import combinations, permutations, product
from random import Random

from bothandall import things as module
from bothandall.errors import BadNumber, BadPlan, BadThing, BadWay, TooMany
from bothandall.houses import is_house
from bothandall.straight import is_straight, judge_sums
from bothandall.things import (
    all_things, both_things, house_of_things, is_thing, is_within_thing, many_things, resting_line, things_behind,
)
from tests import oracle_rows, oracle_things
from tests.anything import any_values, is_equal, is_plain, near
from tests.checking import Case, spread
from tests.oracle_things import KINDS, MOST
from tests.samples import some_plan
from tests.wrong import odd_plans, wrong_numbers, wrong_plans

WRONG_KINDS = any_values() + near("numbers") + near("stretches") + ["parting", "Spaces", "numbers\n", KINDS, list(KINDS)]
WRONG_KINDS = [value for value in WRONG_KINDS if value not in KINDS]
# A great prime, the square and the cube of primes, powers of two, and products of many small primes.
PRIME = 999999999989
GREAT = [10 ** 12, PRIME, 999983 ** 2, 9973 ** 3, 2 ** 39, 3 ** 25, 200560490130, 963761198400, 10 ** 12 - 1, 999958 * 999983]
SIZES = [("numbers", size) for size in (1, 2, 12, 30, 64, 97, 360, 720, 7560, 10000)]
SIZES += [("partings", size) for size in range(1, 7)] + [("spaces", size) for size in range(1, 5)]
SIZES += [("stretches", size) for size in (1, 2, 3, 5, 6, 7, 12, 20)]
SMALL_SIZES = [(kind, size) for kind, size in SIZES if len(oracle_things.things(kind, size)) <= 24]
RIGHT = {
    "numbers": (360, 12, 90), "partings": (4, (0, 0, 1, 2), (0, 1, 1, 2)), "spaces": (3, (0, 1, 2, 3), (0, 5)),
    "stretches": (9, (1, 2), (5, 6)),
}


@lru_cache(maxsize=None)
def divisors_of(size):
    """The divisors, by the powers of primes."""
    found, left, prime = [1], size, 2
    while left > 1:
        if prime * prime > left:
            prime = left
        powers = [1]
        while left % prime == 0:
            left //= prime
            powers.append(powers[-1] * prime)
        found = [one * power for one in found for power in powers]
        prime += 1
    return sorted(found)


def greatest_common(one, other):
    while other:
        one, other = other, one % other
    return one


def wrong_things(kind, size, thing):
    found = any_values() + near(thing) + [list(thing) if isinstance(thing, tuple) else [thing], (thing,), (thing, thing)]
    return [value for value in found if not oracle_things.is_thing(kind, size, value)]


def wrong_rows_of_things(kind, size, row):
    found = any_values() + near(row) + [row * 7, list(row), (), row[0], row[:1] * 7, (list(row[0]) if kind != "numbers" else 1,)]
    return [value for value in found if not oracle_things.is_row_of_things(kind, size, value)]


def some_things(kind, size, many, seed):
    return tuple(Random(seed).choice(oracle_things.things(kind, size)) for _ in range(many))


class IsThingTest(Case):
    def test_all_things(self):
        for kind, size in SIZES:
            for thing in spread(oracle_things.things(kind, size), 80):
                self.assertIs(self.told(is_thing, kind=kind, size=size, thing=thing), True)

    def test_things_of_other_sizes(self):
        for kind in KINDS:
            sizes = [size for one, size in SIZES if one == kind]
            for size, other in product(sizes, repeat=2):
                for thing in spread(oracle_things.things(kind, other), 40):
                    right = thing in oracle_things.things(kind, size)
                    self.assertIs(is_thing(kind, size, thing), right, (kind, size, thing))

    def test_things_of_other_kinds(self):
        for (kind, size), (other, more) in product(spread(SIZES, 14), repeat=2):
            for thing in spread(oracle_things.things(other, more), 12):
                self.assertIs(is_thing(kind, size, thing), oracle_things.is_thing(kind, size, thing))

    def test_all_short_tuples(self):
        for size in range(1, 5):
            for many in range(5):
                for value in product(range(-1, 5), repeat=many):
                    for kind in KINDS[1:]:
                        right = oracle_things.is_thing(kind, size, value)
                        self.assertIs(is_thing(kind, size, value), right, (kind, size, value))

    def test_numbers(self):
        for size in (1, 12, 97, 360):
            for value in range(-5, 400):
                self.assertIs(is_thing("numbers", size, value), value > 0 and size % value == 0)
        for size in GREAT:
            self.assertTrue(all(is_thing("numbers", size, value) for value in divisors_of(size)))
            for value in divisors_of(size):
                right = oracle_things.is_thing("numbers", size, value + 1)
                self.assertIs(is_thing("numbers", size, value + 1), right)

    def test_any_value(self):
        for kind, size in SIZES:
            found = any_values()
            for thing in some_things(kind, size, 3, size) + oracle_things.things(kind, size)[-1:]:
                found += [thing] + near(thing)
            for value in found:
                right = oracle_things.is_thing(kind, size, value)
                self.assertIs(self.told(is_thing, kind=kind, size=size, thing=value), right, (kind, size, value))

    def test_errors(self):
        for kind in KINDS:
            sizes = wrong_numbers(1, MOST[kind])
            for thing in (RIGHT[kind][1], None):
                self.refuses_in_order(is_thing, {"kind": kind, "size": RIGHT[kind][0], "thing": thing}, [
                    ("kind", BadWay, WRONG_KINDS), ("size", BadNumber, sizes),
                ])

    def test_least_and_greatest_sizes(self):
        for kind in KINDS:
            for size in (1, MOST[kind]):
                self.assertIs(is_thing(kind, size, None), False)
            for size in (0, MOST[kind] + 1, -1, True):
                self.refuses(BadNumber, size, is_thing, kind=kind, size=size, thing=None)
                self.refuses(BadNumber, size, many_things, kind=kind, size=size)


class TwoThingsTest(Case):
    def check(self, kind, size, one, other):
        arguments = {"kind": kind, "size": size, "one": one, "other": other}
        both, every = oracle_things.both(kind, size, one, other), oracle_things.every(kind, size, one, other)
        self.assertTrue(is_equal(self.told(both_things, **arguments), both), arguments)
        self.assertTrue(is_equal(self.told(all_things, **arguments), every), arguments)
        self.assertIs(self.told(is_within_thing, **arguments), oracle_things.is_within(kind, one, other))

    def test_all_pairs_of_small_ones(self):
        for kind, size in SMALL_SIZES:
            for one, other in product(oracle_things.things(kind, size), repeat=2):
                self.check(kind, size, one, other)

    def test_pairs_of_large_ones(self):
        for kind, size in SIZES:
            if (kind, size) not in SMALL_SIZES:
                for seed in range(40):
                    self.check(kind, size, *some_things(kind, size, 2, seed))

    def test_joined_by_rows_of_places(self):
        self.assertEqual(all_things("partings", 6, (0, 0, 1, 1, 2, 2), (0, 1, 1, 2, 2, 3)), (0,) * 6)
        self.assertEqual(all_things("partings", 6, (0, 1, 2, 3, 0, 1), (0, 1, 2, 2, 1, 3)), (0, 0, 1, 1, 0, 0))
        self.assertEqual(both_things("partings", 6, (0, 0, 1, 1, 1, 0), (0, 1, 2, 2, 0, 1)), (0, 1, 2, 2, 3, 1))
        self.assertEqual(all_things("partings", 3, (0, 1, 1), (0, 1, 0)), (0, 0, 0))

    def test_great_numbers(self):
        for size in GREAT:
            numbers = divisors_of(size)
            for one, other in spread(list(product(spread(numbers, 20), repeat=2)), 200) + [(1, size), (size, size)]:
                common = greatest_common(one, other)
                arguments = {"kind": "numbers", "size": size, "one": one, "other": other}
                self.assertTrue(is_equal(self.told(both_things, **arguments), common))
                self.assertTrue(is_equal(self.told(all_things, **arguments), one * other // common))
                self.assertIs(self.told(is_within_thing, **arguments), other % one == 0)

    def test_the_empty_stretch(self):
        for one, other, both, every in [
            ((), (), (), ()), ((), (2, 2), (), (2, 2)), ((2, 3), (), (), (2, 3)), ((0, 1), (1, 3), (1, 1), (0, 3)),
            ((0, 19), (), (), (0, 19)), ((0, 3), (1, 2), (1, 2), (0, 3)), ((5, 6), (0, 0), (), (0, 6)),
        ]:
            self.assertEqual(both_things("stretches", 20, one, other), both)
            self.assertEqual(all_things("stretches", 20, one, other), every)

    def test_errors(self):
        for kind, (size, one, other) in RIGHT.items():
            right = {"kind": kind, "size": size, "one": one, "other": other}
            wrong = [
                ("kind", BadWay, WRONG_KINDS), ("size", BadNumber, wrong_numbers(1, MOST[kind])),
                ("one", BadThing, wrong_things(kind, size, one)), ("other", BadThing, wrong_things(kind, size, other)),
            ]
            for function in (both_things, all_things, is_within_thing):
                self.refuses_in_order(function, right, wrong)

    def test_things_of_just_this_size(self):
        for kind, size, wrong in [
            ("numbers", 12, 8), ("numbers", 12, 24), ("partings", 3, (0, 1)), ("partings", 3, (0, 1, 2, 3)),
            ("spaces", 2, (0, 4)), ("spaces", 2, (0, 1, 2)), ("stretches", 2, (0, 2)), ("stretches", 2, (1, 0)),
        ]:
            right = oracle_things.things(kind, size)[-1]
            for function in (both_things, all_things, is_within_thing):
                self.refuses(BadThing, wrong, function, kind=kind, size=size, one=wrong, other=None)
                self.refuses(BadThing, wrong, function, kind=kind, size=size, one=right, other=wrong)


class HousesTest(Case):
    def test_houses(self):
        for kind, size in SMALL_SIZES:
            found = self.told(house_of_things, kind=kind, size=size)
            self.assertTrue(is_plain(found))
            right = (oracle_things.house(kind, size), oracle_things.things(kind, size))
            self.assertTrue(is_equal(found, right), (kind, size))
            self.assertTrue(is_house(found[0]))

    def test_all_numbers(self):
        for size in list(range(1, 400)) + [9999, 10000, 5040, 9240, 9973, 8192, 6561, 9409]:
            self.assertTrue(is_equal(many_things("numbers", size), len(divisors_of(size))))
            if len(divisors_of(size)) <= 24:
                self.assertEqual(house_of_things("numbers", size)[1], tuple(divisors_of(size)))
            else:
                self.refuses(TooMany, 24, house_of_things, kind="numbers", size=size)

    def test_just_24_and_more(self):
        self.assertEqual(len(house_of_things("numbers", 360)[0]), 24)
        self.assertEqual(len(house_of_things("numbers", 9973)[0]), 2)
        self.assertEqual(len(house_of_things("stretches", 6)[0]), 22)
        for kind, size in [
            ("numbers", 720), ("numbers", 1260), ("numbers", 10000), ("partings", 5), ("partings", 6), ("spaces", 4),
            ("stretches", 7), ("stretches", 20),
        ]:
            self.refuses(TooMany, 24, house_of_things, kind=kind, size=size)

    def test_how_many(self):
        for kind, size in SIZES:
            found = self.told(many_things, kind=kind, size=size)
            self.assertTrue(is_equal(found, len(oracle_things.things(kind, size))), (kind, size))
        self.assertEqual([many_things("partings", size) for size in range(1, 7)], [1, 2, 5, 15, 52, 203])
        self.assertEqual([many_things("spaces", size) for size in range(1, 5)], [2, 5, 16, 67])
        self.assertEqual([many_things("stretches", size) for size in (1, 2, 20)], [2, 4, 211])

    def test_straight_ones(self):
        for kind, size in SMALL_SIZES:
            house, _ = house_of_things(kind, size)
            right = kind == "numbers" or size <= {"partings": 2, "spaces": 1, "stretches": 2}[kind]
            self.assertIs(is_straight(house), right, (kind, size))
            if kind in ("numbers", "spaces"):
                self.assertEqual(judge_sums(house, "stays"), ("so",))
            if kind == "partings":
                self.assertEqual(judge_sums(house, "never rises"), ("so",))

    def test_errors(self):
        for kind in KINDS:
            wrong = [("kind", BadWay, WRONG_KINDS), ("size", BadNumber, wrong_numbers(1, MOST[kind]))]
            for function in (house_of_things, many_things):
                self.refuses_in_order(function, {"kind": kind, "size": RIGHT[kind][0]}, wrong)


class RowsTest(Case):
    def held_behind(self, kind, size, row, plan):
        held = list(row)
        for i, j in plan:
            one, other = held[i], held[j]
            held[i] = oracle_things.both(kind, size, one, other)
            held[j] = oracle_things.every(kind, size, one, other)
        return tuple(held)

    def test_things_behind(self):
        for kind, size in SIZES:
            for hands in range(1, 7):
                row = some_things(kind, size, hands, hands)
                plan = some_plan(hands, (0, 1, 3, 20)[hands % 4], size)
                found = self.told(things_behind, kind=kind, size=size, row=row, plan=plan)
                self.assertTrue(is_equal(found, self.held_behind(kind, size, row, plan)), (kind, size, row, plan))

    def test_ends_in_houses(self):
        for kind, size in SMALL_SIZES:
            house, things = oracle_things.house(kind, size), oracle_things.things(kind, size)
            for hands in range(1, 7):
                for seed in range(4 if hands < 5 else 1):
                    row = some_things(kind, size, hands, seed)
                    found = self.told(resting_line, kind=kind, size=size, row=row)
                    self.assertTrue(is_plain(found))
                    lots = tuple(things.index(thing) for thing in row)
                    self.assertIn(tuple(things.index(thing) for thing in found), oracle_rows.ends(house, lots))

    def test_ends_of_three_hands(self):
        for kind, size in (("partings", 3), ("partings", 4), ("spaces", 2), ("stretches", 3)):
            house, things = oracle_things.house(kind, size), oracle_things.things(kind, size)
            for lots in spread(list(product(range(len(things)), repeat=3)), 250):
                found = resting_line(kind, size, tuple(things[lot] for lot in lots))
                self.assertIn(tuple(things.index(thing) for thing in found), oracle_rows.ends(house, lots))

    def lines(self, kind, size, row):
        """The ends of a row of things, by all meetings of strange pairs of them."""
        found, seen, left = set(), set(), [tuple(sorted(row))]
        while left:
            one = left.pop()
            if one in seen:
                continue
            seen.add(one)
            strange = [
                (i, j) for i, j in combinations(range(len(one)), 2)
                if not oracle_things.is_within(kind, one[i], one[j]) and not oracle_things.is_within(kind, one[j], one[i])
            ]
            if not strange:
                found.add(one)
            left += [tuple(sorted(self.held_behind(kind, size, one, (pair,)))) for pair in strange]
        return found

    def test_ends_of_large_ones(self):
        for kind, size in (("partings", 6), ("partings", 5), ("spaces", 4), ("stretches", 20), ("numbers", 7560)):
            for hands, seeds in ((2, 8), (3, 6), (4, 3)):
                for seed in range(seeds):
                    row = some_things(kind, size, hands, seed + 50)
                    found = resting_line(kind, size, row)
                    self.assertIn(tuple(sorted(found)), self.lines(kind, size, row))
                    for one, other in zip(found, found[1:]):
                        self.assertTrue(oracle_things.is_within(kind, one, other))

    def test_numbers_at_rest(self):
        for size in GREAT + [360, 720, 1]:
            for hands in range(1, 7):
                for seed in range(6):
                    row = tuple(Random(seed).choice(divisors_of(size)) for _ in range(hands))
                    right = []
                    for k in range(hands):
                        common = 0
                        for some in combinations(row, k + 1):
                            every = 1
                            for number in some:
                                every = every * number // greatest_common(every, number)
                            common = greatest_common(common, every)
                        right.append(common)
                    self.assertEqual(resting_line("numbers", size, row), tuple(right))

    def test_any_order_of_numbers(self):
        for row in permutations((12, 90, 8)):
            self.assertEqual(resting_line("numbers", 360, row), (2, 12, 360))

    def test_errors(self):
        for kind, (size, one, other) in RIGHT.items():
            row = (one, other)
            wrong = [
                ("kind", BadWay, WRONG_KINDS), ("size", BadNumber, wrong_numbers(1, MOST[kind])),
                ("row", BadThing, wrong_rows_of_things(kind, size, row)),
            ]
            self.refuses_in_order(resting_line, {"kind": kind, "size": size, "row": row}, wrong)
            right = {"kind": kind, "size": size, "row": row, "plan": ((0, 1),)}
            self.refuses_in_order(things_behind, right, wrong + [("plan", BadPlan, wrong_plans(2))])

    def test_so_many_hands(self):
        for kind in KINDS:
            size, one, _ = RIGHT[kind]
            for hands in range(9):
                row = (one,) * hands
                if 1 <= hands <= 6:
                    self.assertEqual(resting_line(kind, size, row), row)
                    for plan in odd_plans(hands) + [((0, hands - 1),), ((hands - 1, 0),) * 20]:
                        if oracle_rows.is_plan(hands, plan):
                            self.assertEqual(things_behind(kind, size, row, plan), row)
                        else:
                            self.refuses(BadPlan, plan, things_behind, kind=kind, size=size, row=row, plan=plan)
                else:
                    self.refuses(BadThing, row, resting_line, kind=kind, size=size, row=row)
                    self.refuses(BadThing, row, things_behind, kind=kind, size=size, row=row, plan=())


class PlaceTest(Case):
    def test_defined_here(self):
        for name in (
            "is_thing", "both_things", "all_things", "is_within_thing", "house_of_things", "many_things", "resting_line",
            "things_behind",
        ):
            self.assertEqual(getattr(module, name).__module__, "bothandall.things")
