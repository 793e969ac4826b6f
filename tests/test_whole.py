"""One set of rules, its house, rows of it and a desk with the same row answer alike."""

from itertools import permutations, product
from random import Random

from bothandall.before import judge_same_end, piece_counts
from bothandall.bits import judge_bits, least_plan
from bothandall.crooked import judge_rules
from bothandall.desks import Desk, read_desk
from bothandall.ends import ceilings, ends_of, floors, judge_one_end
from bothandall.holders import holders, holders_now, judge_saying, open_lots, sure_lots
from bothandall.houses import all_of, both, is_within, pieces
from bothandall.lining import judge_lining
from bothandall.maps import judge_map, led_row
from bothandall.partings import house_of_blocks, judge_simple, least_kept
from bothandall.rows import behind, is_at_rest, line_of, met, resting_plan
from bothandall.rules import closed_lots, closure, house_of, judge_follows
from bothandall.still import ended_plan, is_still, still_ends
from bothandall.straight import is_straight
from bothandall.things import house_of_things, many_things, resting_line, things_behind
from tests.checking import Case, spread
from tests.samples import LADDERS, random_rules, rules_within_the_limit, some_plan, some_rows, ties_of


def some_sets():
    """Triples of a number of facts, rules and a row of their house."""
    found = []
    for seed, (m, rules) in enumerate(rules_within_the_limit()):
        chance = Random(seed)
        many = len(closed_lots(m, rules))
        if many > 1:
            found.append((m, rules, tuple(chance.randrange(many) for _ in range(chance.randint(2, 4)))))
    for seed in range(60):
        # Rules with two ifs and strange lots, so that many rows have two ends.
        rules = tuple(rule for rule in random_rules(4, 6, Random(seed)) if len(rule[0]) > 1)
        found += [(4, rules, row) for row in some_rows(house_of(4, rules), 3, 2, seed)]
    return found


SETS = some_sets()


def same_row(m, rules, row):
    """The lots of facts that a row of the house stands for."""
    lots = closed_lots(m, rules)
    return tuple(lots[x] for x in row)


def row_of(desk):
    """The row of the house of the desk's rules."""
    lots = closed_lots(desk.facts(), desk.rules())
    return tuple(lots.index(lot) for lot in desk.row())


class DeskTest(Case):
    def test_meetings(self):
        for seed, (m, rules, row) in enumerate(SETS):
            house, desk = house_of(m, rules), Desk(m, rules, same_row(m, rules, row))
            for meeting in some_plan(len(row), 8, seed):
                desk.meet(meeting)
                row = met(house, row, meeting)
                self.assertEqual(row_of(desk), row)
            self.assertEqual(read_desk(desk.text()).row(), same_row(m, rules, row))

    def test_plans(self):
        for seed, (m, rules, row) in enumerate(SETS):
            house, plan = house_of(m, rules), some_plan(len(row), 10, seed)
            desk = Desk(m, rules, same_row(m, rules, row))
            for meeting in plan:
                desk.meet(meeting)
            self.assertEqual(row_of(desk), behind(house, row, plan))
            for _ in plan:
                desk.undo()
            self.assertEqual(row_of(desk), row)

    def test_all_orders_of_strange_pairs(self):
        two = 0
        for m, rules, row in SETS:
            house = house_of(m, rules)
            desks, lines = [Desk(m, rules, same_row(m, rules, row))], set()
            while desks and len(row) < 4:
                desk = desks.pop()
                strange = [
                    (i, j) for i, j in permutations(range(len(row)), 2)
                    if i < j and not set(desk.row()[i]) <= set(desk.row()[j]) and not set(desk.row()[j]) <= set(desk.row()[i])
                ]
                self.assertEqual(is_at_rest(house, row_of(desk)), not strange)
                if not strange:
                    lines.add(line_of(house, row_of(desk)))
                for meeting in strange:
                    desks.append(desk.copied())
                    desks[-1].meet(meeting)
            if len(row) < 4:
                self.assertEqual(ends_of(house, row), tuple(sorted(lines)))
                self.assertEqual(judge_one_end(house, row)[0] == "two", len(lines) > 1)
                two += len(lines) > 1
        self.assertGreater(two, 15)

    def test_what_is_sure_at_rest(self):
        kinds = set()
        for seed, (m, rules, row) in enumerate(SETS):
            house, lots = house_of(m, rules), closed_lots(m, rules)
            desk = Desk(m, rules, same_row(m, rules, row))
            for meeting in resting_plan(house, row):
                desk.meet(meeting)
            for lot in spread(range(len(lots)), 6):
                many = len([held for held in desk.row() if set(lots[lot]) <= set(held)])
                low, high = holders(house, row, lot)
                self.assertTrue(low <= many <= high)
                self.assertEqual(holders_now(house, row_of(desk), lot), many)
                for k in range(1, len(row) + 1):
                    word = judge_saying(house, row, lot, k)[0]
                    self.assertTrue(word == "open" or (many >= k) == (word == "sure"))
                    self.assertEqual([lot in sure_lots(house, row, k), lot in open_lots(house, row, k)], [word == "sure", word == "open"])
                    kinds.add(word)
        self.assertEqual(len(kinds), 3)

    def test_pieces(self):
        for seed, (m, rules, row) in enumerate(SETS):
            house, lots = house_of(m, rules), closed_lots(m, rules)
            desk = Desk(m, rules, same_row(m, rules, row))
            counts = tuple(len([held for held in desk.row() if set(lots[p]) <= set(held)]) for p in pieces(house))
            self.assertEqual(piece_counts(house, row), counts)
            for meeting in some_plan(len(row), 5, seed):
                desk.meet(meeting)
            if is_straight(house):
                self.assertEqual(piece_counts(house, row_of(desk)), counts)
                self.assertEqual(judge_same_end(house, row, row_of(desk)), ("same",))
                self.assertEqual(floors(house, row), ceilings(house, row_of(desk)))

    def test_ends_of_straight_rules(self):
        kinds = set()
        for m, rules, row in SETS:
            house = house_of(m, rules)
            if m < 5:
                self.assertEqual(judge_rules(m, rules) == ("straight",), is_straight(house))
            if is_straight(house):
                self.assertEqual(judge_one_end(house, row), ("one", ceilings(house, row)))
            kinds.add(is_straight(house))
        self.assertEqual(len(kinds), 2)

    def test_learned_facts(self):
        for m, rules, row in SETS:
            house, lots = house_of(m, rules), closed_lots(m, rules)
            for hand, fact in product(range(len(row)), range(m)):
                desk = Desk(m, rules, same_row(m, rules, row))
                desk.learn(hand, fact)
                lot = all_of(house, row[hand], lots.index(closure(m, rules, (fact,))))
                self.assertEqual(row_of(desk), row[:hand] + (lot,) + row[hand + 1:])
                for other in range(m):
                    more = tuple(sorted({fact, *lots[row[hand]]}))
                    follows = judge_follows(m, rules, more, other)[0] == "steps"
                    self.assertEqual(other in desk.row()[hand], follows)

    def test_both_and_within(self):
        for m, rules, row in SETS:
            house, lots = house_of(m, rules), closed_lots(m, rules)
            x, y = row[:2]
            desk = Desk(m, rules, same_row(m, rules, row))
            self.assertEqual(is_within(house, x, y), set(lots[x]) <= set(lots[y]))
            if is_within(house, x, y):
                self.assertIs(desk.promise(("within", 0, 1)), None)
            desk = Desk(m, rules, same_row(m, rules, row))
            desk.meet((0, 1))
            self.assertEqual(row_of(desk)[:2], (both(house, x, y), all_of(house, x, y)))
            self.assertEqual(desk.row()[0], tuple(sorted(set(lots[x]) & set(lots[y]))))
            self.assertIs(desk.promise(("within", 0, 1)), None)

    def test_ties(self):
        for seed, (m, rules, row) in enumerate(SETS):
            house = house_of(m, rules)
            for ties in spread([ties for ties in ties_of(len(row), seed) if all(i < j for i, j in ties)], 3):
                desk = Desk(m, rules, same_row(m, rules, row))
                for tie in ended_plan(house, row, ties):
                    before = desk.row()
                    desk.meet(tie)
                    self.assertNotEqual(desk.row(), before)
                self.assertTrue(is_still(house, row_of(desk), ties))
                self.assertIn(row_of(desk), still_ends(house, row, ties))

    def test_plans_that_line_up(self):
        for seed, (m, rules, row) in enumerate(SETS):
            plan = LADDERS[len(row)] if seed % 2 else least_plan(len(row))
            word, order = judge_lining(len(row), plan)[:2]
            if word == "strange":
                continue
            self.assertEqual(judge_bits(len(row), plan), ("line", order))
            desk = Desk(m, rules, same_row(m, rules, row))
            for meeting in plan:
                desk.meet(meeting)
            for i, j in zip(order, order[1:]):
                self.assertIs(desk.promise(("within", i, j)), None)

    def test_blocks(self):
        for seed, (m, rules, row) in enumerate(SETS):
            house = house_of(m, rules)
            if len(house) > 16:
                continue
            parting = least_kept(house, ((row[0], row[-1]),))
            blocks = house_of_blocks(house, parting)
            self.assertEqual(judge_map(house, blocks, parting), ("good",))
            desk = Desk(m, rules, same_row(m, rules, row))
            led = led_row(house, blocks, parting, row)
            for meeting in some_plan(len(row), 4, seed):
                desk.meet(meeting)
                led = met(blocks, led, meeting)
                self.assertEqual(led_row(house, blocks, parting, row_of(desk)), led)
            if len(house) > 1 and judge_simple(house) == ("simple",):
                self.assertIn(len(blocks), (1, len(house)))


class ThingsTest(Case):
    def test_rows_of_things_and_of_lots(self):
        for kind, size in [
            ("numbers", 360), ("numbers", 30), ("numbers", 64), ("partings", 3), ("partings", 4), ("spaces", 2), ("spaces", 3),
            ("stretches", 2), ("stretches", 4), ("stretches", 6),
        ]:
            house, things = house_of_things(kind, size)
            self.assertEqual(len(house), many_things(kind, size))
            for seed in range(20):
                chance = Random(seed)
                row = tuple(chance.randrange(len(house)) for _ in range(chance.randint(1, 4)))
                plan = some_plan(len(row), 6, seed)
                held = tuple(things[x] for x in row)
                after = tuple(things[x] for x in behind(house, row, plan))
                self.assertEqual(things_behind(kind, size, held, plan), after)
                line = tuple(things.index(thing) for thing in resting_line(kind, size, held))
                self.assertIn(line, ends_of(house, row))
                if is_straight(house):
                    self.assertEqual(line, ceilings(house, row))
