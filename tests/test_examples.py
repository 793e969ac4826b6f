"""The examples of the document, as they stand there."""

from unittest import TestCase

from bothandall.before import judge_led, judge_same_end, led_holds, piece_counts, rows_before, same_end_holds
from bothandall.bits import bits_hold, idle_meetings, judge_bits, judge_same_bits, least_plan, same_bits_hold
from bothandall.crooked import cut_of, is_cut, is_mend, judge_rules, mend_of, rules_hold
from bothandall.desks import Desk, read_desk
from bothandall.ends import (
    ceilings, end_holds, ends_hold, ends_of, floors, judge_end, judge_ends, judge_one_end, one_end_holds,
)
from bothandall.errors import BadText, Broken
from bothandall.holders import holders, holders_now, judge_saying, open_lots, saying_holds, sure_lots
from bothandall.houses import (
    all_of, both, depths, greatest, house_holds, is_house, judge_house, least, pieces, steps_above,
)
from bothandall.lining import judge_lining, judge_same_plans, lining_holds, same_plans_hold, strange_row
from bothandall.making import above, alike_holds, beside, judge_alike, stretch, turned_over
from bothandall.maps import judge_map, led_row, map_holds
from bothandall.partings import (
    house_of_blocks, is_parting, judge_parting, judge_simple, least_kept, parting_holds, simple_holds,
)
from bothandall.parts import held_parts, is_derivation, is_parts_order, parts_of
from bothandall.rows import (
    behind, is_at_rest, is_plan, is_row, ledger, line_of, met, resting_plan, strange_pairs,
)
from bothandall.rules import (
    closed_lots, closure, fewer_rules, follows_holds, house_of, judge_follows, needless_rules, say_same,
)
from bothandall.still import ended_plan, is_still, is_tied_plan, longest_tied, still_ends
from bothandall.straight import (
    is_straight, judge_straight, judge_sums, lot_with, pieces_within, rules_for, straight_holds, sums_hold,
)
from bothandall.things import (
    all_things, both_things, house_of_things, is_thing, is_within_thing, many_things, resting_line, things_behind,
)
from bothandall.ties import are_ties, judge_round, judge_way, ring_row, round_holds, strange_still, way_holds
from bothandall.told import are_told, judge_told, judge_told_bits, needless_pairs, told_bits_hold, told_holds
from tests.anything import is_equal

RULES = (((0, 1), 2), ((2,), 0), ((2,), 1))
FLAT = ((1, 1, 1, 1, 1), (0, 1, 0, 0, 1), (0, 0, 1, 0, 1), (0, 0, 0, 1, 1), (0, 0, 0, 0, 1))
LEANING = ((1, 1, 1, 1, 1), (0, 1, 1, 0, 1), (0, 0, 1, 0, 1), (0, 0, 0, 1, 1), (0, 0, 0, 0, 1))
TWO = ((1, 1), (0, 1))
THREE = ((1, 1, 1), (0, 1, 1), (0, 0, 1))
SIX = (
    (0, 1), (2, 3), (0, 2), (4, 5), (3, 5), (1, 3), (1, 2), (0, 4), (1, 2), (3, 5), (1, 5), (0, 1), (2, 4), (1, 2), (3, 4),
)
CHAIN, OPEN = ((0, 1), (1, 2)), ((0, 1), (0, 2))
CROOKED = (((0, 1), 2),)
TWOFOLD = (((0, 1), 2), ((0, 2), 1), ((1, 2), 0))
FOUR = ((1, 1, 1, 1), (0, 1, 0, 1), (0, 0, 1, 1), (0, 0, 0, 1))


class ExamplesTest(TestCase):
    def same(self, found, told):
        self.assertEqual(found, told)
        self.assertTrue(is_equal(found, told))

    def test_rules(self):
        self.same([
            closure(3, RULES, (2,)), closed_lots(3, RULES), house_of(3, RULES), judge_follows(3, RULES, (0,), 1),
            follows_holds(3, RULES, (0, 1), 2, ("steps", (0,))), needless_rules(2, (((0,), 1), ((), 1))),
        ], [
            (0, 1, 2), ((), (0,), (0, 1, 2), (1,)), ((1, 1, 1, 1), (0, 1, 1, 0), (0, 0, 1, 0), (0, 0, 1, 1)),
            ("closed", (0,)), True, (0,),
        ])
        self.same(
            [fewer_rules(2, (((0,), 1), ((), 1))), say_same(2, (((0,), 1), ((), 1)), (((), 1),))],
            [(((), 1),), True],
        )

    def test_houses(self):
        self.same([
            is_house(FLAT), both(FLAT, 1, 2), all_of(LEANING, 1, 3), depths(LEANING), pieces(FLAT), least(FLAT),
            greatest(FLAT), steps_above(LEANING, 0), judge_house(((1, 1), (1, 1)))[0],
            house_holds(((1, 0), (0, 1)), ("all", 1, 0)),
        ], [True, 0, 4, (0, 1, 2, 1, 3), (1, 2, 3), 0, 4, (1, 3), "round", True])

    def test_making(self):
        self.same([
            turned_over(TWO), beside(TWO, TWO), above(TWO, ((1,),)), stretch(FLAT, 1, 4),
            judge_alike(TWO, turned_over(TWO)), alike_holds(FLAT, LEANING, ("unlike",)),
        ], [
            ((1, 0), (1, 1)), ((1, 1, 1, 1), (0, 1, 0, 1), (0, 0, 1, 1), (0, 0, 0, 1)),
            ((1, 1, 1), (0, 1, 1), (0, 0, 1)), ((1, 1), (0, 1)), ("alike", (1, 0)), True,
        ])

    def test_straight(self):
        self.same([
            is_straight(THREE), judge_straight(FLAT)[:2], straight_holds(FLAT, ("five", "flat", 0, 3, 1, 2, 4)),
            judge_straight(LEANING), pieces_within(LEANING, 2), lot_with(FLAT, (1, 3)), rules_for(THREE),
        ], [
            True, ("five", "flat"), True, ("five", "leaning", 0, 1, 2, 3, 4), (1, 2), 4, (2, (((1,), 0),)),
        ])
        self.same([
            judge_sums(FLAT, "stays"), judge_sums(LEANING, "never falls"),
            sums_hold(LEANING, "never rises", ("pair", 1, 3)), sums_hold(LEANING, "never rises", ("pair", 2, 3)),
        ], [("so",), ("so",), True, False])

    def test_rows(self):
        self.same([
            met(FLAT, (1, 2, 3), (0, 1)), behind(FLAT, (1, 2, 3), ((1, 2), (0, 1))),
            ledger(FLAT, (1, 2, 3), ((0, 1), (1, 2))), strange_pairs(FLAT, (1, 0, 3)), is_at_rest(FLAT, (4, 0, 2)),
            line_of(FLAT, (4, 0, 2)), line_of(FLAT, (1, 2, 3)), resting_plan(FLAT, (4, 0, 2)),
        ], [(0, 4, 3), (0, 1, 4), (3, 0, 0), ((0, 2),), True, (0, 2, 4), None, ()])
        self.same([is_row(FLAT, (5,)), is_plan(2, ((0, 1), (1, 0))), is_plan(2, ((0, 0),))], [False, True, False])

    def test_ends(self):
        self.same([
            ends_of(FLAT, (1, 2, 3)), judge_one_end(FLAT, (1, 2)), judge_end(FLAT, (1, 2), (0, 0))[0],
            floors(FLAT, (1, 2, 3)), ceilings(FLAT, (1, 2, 3)), judge_ends(THREE), judge_ends(FLAT)[0],
        ], [
            ((0, 1, 4), (0, 2, 4), (0, 3, 4)), ("one", (0, 4)), "closed", (0, 0, 4), (0, 4, 4), ("straight",), "row",
        ])
        self.same([
            end_holds(FLAT, (1, 2, 3), (0, 3, 4), ("plan", ((0, 1),))),
            one_end_holds(FLAT, (1, 2, 3), ("two", ((0, 1),), ((1, 2),))),
            ends_hold(FLAT, ("row", (1, 2, 3), ((0, 1),), ((2, 1),))),
            end_holds(FLAT, (1, 2), (0, 0), ("closed", ((0, 4), (1, 2)))),
        ], [True, True, True, True])

    def test_before(self):
        self.same([
            piece_counts(FOUR, (1, 3, 0)), judge_same_end(FOUR, (1, 2), (0, 3)), judge_same_end(FOUR, (1, 1), (1, 3)),
            same_end_holds(FOUR, (1, 2), (2, 2), ("piece", 1)), rows_before(FOUR, (0, 3)), rows_before(FOUR, (1, 3)),
        ], [
            (2, 1), ("same",), ("piece", 2), True, ((0, 3), (1, 2), (2, 1), (3, 0)), ((1, 3), (3, 1)),
        ])
        self.same([
            judge_led(FOUR, (1, 2), (3, 0)), judge_led(FOUR, (0, 3), (0, 3)), judge_led(FOUR, (0, 3), (1, 2))[0],
            led_holds(FOUR, (0, 3), (1, 2), ("closed", ((0, 3),))),
        ], [("plan", ((1, 0),)), ("plan", ()), "closed", False])

    def test_bits(self):
        self.same([
            judge_bits(2, ((1, 0),)), judge_bits(3, ((0, 1), (1, 2), (0, 1))), judge_bits(3, ((0, 1), (1, 2)))[0],
            bits_hold(2, (), ("strange", 0, 1, (1, 0), (0, 1))), idle_meetings(2, ((0, 1), (0, 1))),
            len(least_plan(5)), least_plan(1),
        ], [("line", (1, 0)), ("line", (0, 1, 2)), "strange", True, (1,), 9, ()])
        self.same([
            judge_same_bits(2, ((0, 1),), ((1, 0), (0, 1))), judge_same_bits(2, ((0, 1),), ())[0],
            same_bits_hold(2, ((0, 1),), (), ("row", (1, 0))),
        ], [("same",), "row", True])

    def test_parts(self):
        self.same([
            parts_of(2, ((0, 1), (1, 0))), held_parts(2, ((0, 1), (1, 0))),
            is_derivation(2, ((0, 1),), ((0, 0, ("same",)), (2, 0, ("first", 0)))),
            is_parts_order(2, ((0, 1),), ((1, 0, 0, 1), (0, 1, 0, 1), (1, 1, 1, 1), (0, 0, 0, 1))),
        ], [
            (("hand", 0), ("hand", 1), ("both", 0, 1), ("all", 0, 1), ("both", 3, 2), ("all", 3, 2)), (5, 4), True, True,
        ])

    def test_lining(self):
        steps = ((0, 0, ("same",)), (2, 0, ("first", 0)), (2, 3, ("second", 1)))
        self.same([
            judge_lining(3, ((0, 1), (1, 2), (0, 1)))[:2], judge_lining(2, ()), judge_lining(6, SIX)[0],
            lining_holds(2, ((0, 1),), ("line", (0, 1), steps)), strange_row(FLAT, 2, ((0, 1),)),
        ], [("line", (0, 1, 2)), ("strange", 0, 1, ((1, 0), (0, 1))), "strange", True, None])
        self.same([
            judge_same_plans(2, ((0, 1),), ((1, 0), (0, 1)))[0], judge_same_plans(2, ((0, 1),), ())[0],
            same_plans_hold(2, (), (), ("same", ((0, 0, ("same",)), (1, 1, ("same",))))),
        ], ["same", "unlike", True])

    def test_told(self):
        self.same([
            are_told(2, ((0, 1), (1, 0))), judge_told_bits(2, ((1, 0),), ()), judge_told(2, ((0, 1),), ())[:2],
            judge_told(3, ((0, 1),), ((0, 2), (1, 2)))[0], judge_told(3, ((0, 1),), ((1, 2), (0, 1)))[:2],
            needless_pairs(3, ((0, 1), (0, 2)), ((1, 2),)),
        ], [True, ("line", (1, 0)), ("line", (0, 1)), "line", ("line", (0, 1, 2)), ()])
        self.same([
            told_holds(2, ((0, 1), (1, 0)), (), ("line", (1, 0), ((1, 0, ("told",)),))),
            told_bits_hold(2, ((0, 1),), (), ("strange", 0, 1, (1, 0), (0, 1))),
        ], [True, False])

    def test_ties(self):
        self.same([
            are_ties(3, CHAIN), are_ties(2, ((1, 1),)), judge_round(3, CHAIN), judge_round(2, ((0, 1), (1, 0)))[0],
            judge_way(3, CHAIN), judge_way(3, OPEN), ring_row(3, CHAIN), strange_still(3, CHAIN),
        ], [True, False, ("order", (0, 1, 2)), "ring", ("way", (0, 1, 2)), ("two", 1, 2), None, None])
        self.same([
            round_holds(3, OPEN, ("order", (0, 2, 1))), round_holds(2, ((0, 1), (1, 0)), ("ring", (1, 0))),
            way_holds(3, OPEN, ("two", 0, 1)), strange_still(3, OPEN) in ((0, 1, 2), (0, 2, 1)),
        ], [True, True, False, True])

    def test_still(self):
        self.same([
            is_still(FLAT, (0, 1, 4), CHAIN), is_tied_plan(FLAT, (1, 2, 3), CHAIN, ((0, 1), (0, 1))),
            still_ends(FLAT, (1, 2, 3), CHAIN), longest_tied(FLAT, (4, 1, 0), CHAIN), ended_plan(FLAT, (1, 0, 4), CHAIN),
        ], [True, False, ((0, 1, 4), (0, 3, 4)), 3, ((0, 1),)])

    def test_things(self):
        self.same([
            both_things("numbers", 360, 12, 90), all_things("partings", 4, (0, 0, 1, 2), (0, 1, 1, 2)),
            both_things("spaces", 3, (0, 1, 2, 3), (0, 1, 4, 5)), all_things("stretches", 9, (1, 2), (5, 6)),
            all_things("spaces", 3, (0, 3), (0, 5)), both_things("stretches", 9, (1, 2), (5, 6)),
        ], [6, (0, 0, 0, 1), (0, 1), (1, 6), (0, 3, 5, 6), ()])
        self.same([
            is_thing("partings", 3, (0, 2, 1)), is_within_thing("numbers", 12, 4, 6), many_things("partings", 5),
            many_things("spaces", 4), house_of_things("stretches", 1), resting_line("numbers", 360, (12, 90, 8)),
            things_behind("stretches", 9, ((1, 2), (2, 6)), ((0, 1),)),
        ], [False, False, 52, 67, (((1, 1), (0, 1)), ((), (0, 0))), (2, 12, 360), ((2, 2), (1, 6))])

    def test_crooked(self):
        self.same([
            judge_rules(3, CROOKED)[0], judge_rules(3, ()), cut_of(3, CROOKED), len(cut_of(3, TWOFOLD)),
            len(mend_of(3, CROOKED)), is_mend(3, CROOKED, (((0,), 2),)), is_cut(3, TWOFOLD, (0,)),
            rules_hold(3, CROOKED, ("lots", (2,), (0,), (1,))),
        ], ["lots", ("straight",), (0,), 3, 1, True, False, True])

    def test_maps(self):
        self.same([
            judge_map(THREE, TWO, (0, 1, 1)), judge_map(FLAT, TWO, (0, 0, 0, 0, 1))[0],
            map_holds(FLAT, TWO, (0, 0, 0, 0, 1), ("all", 1, 2)), led_row(THREE, TWO, (0, 1, 1), (2, 1, 0)),
        ], [("good",), "all", True, (1, 1, 0)])

    def test_partings(self):
        self.same([
            judge_parting(LEANING, (0, 1, 1, 2, 3)), house_of_blocks(LEANING, (0, 1, 1, 2, 3)), least_kept(LEANING, ((0, 1),)),
            least_kept(FLAT, ((0, 1),)), judge_simple(FLAT), judge_simple(THREE)[0],
            simple_holds(LEANING, ("parting", (0, 1, 1, 2, 3))),
        ], [("kept",), FOUR, (0, 0, 0, 1, 1), (0, 0, 0, 0, 0), ("simple",), "parting", True])
        # These two are imported there, without an example.
        self.same([is_parting(FLAT, (0, 1, 1, 2, 3)), parting_holds(LEANING, (0, 1, 1, 2, 3), ("kept",))], [True, True])

    def test_holders(self):
        self.same([
            holders_now(FLAT, (1, 2, 3), 1), holders(FLAT, (1, 2, 3), 1), judge_saying(FLAT, (1, 2, 3), 4, 1),
            judge_saying(FLAT, (1, 2, 3), 4, 2), judge_saying(FLAT, (1, 2, 3), 1, 2)[0], sure_lots(FLAT, (1, 2, 3), 1),
            open_lots(FLAT, (1, 2, 3), 2),
        ], [1, (1, 2), ("sure",), ("never",), "open", (0, 1, 2, 3, 4), (1, 2, 3)])
        self.same([
            saying_holds(FLAT, (1, 2, 3), 1, 2, ("open", ((1, 2),), ((0, 1),))), saying_holds(FLAT, (1, 2, 3), 0, 3, ("sure",)),
        ], [True, True])

    def test_desks(self):
        desk = Desk(3, (((0, 1), 2),), ((0,), (1,)))
        text = "facts 3\nrule 0 1 > 2\nhand 1\nhand 0 1 2\nwithin 0 1"
        self.same([
            desk.meet((0, 1)), desk.row(), desk.learn(0, 1), desk.row(), desk.promise(("within", 0, 1)), desk.undoable(),
            desk.text(),
        ], [None, ((), (0, 1, 2)), None, ((1,), (0, 1, 2)), None, 3, text])
        with self.assertRaises(Broken) as caught:
            desk.meet((1, 0))
        self.assertEqual(vars(caught.exception), {"promise": ("within", 0, 1)})
        self.same([
            desk.rule(((), 0)), desk.row(), desk.undo(), desk.row(), desk.redoable(), read_desk(desk.text()).is_same(desk),
            read_desk("facts 1\nhand").standing(),
        ], [None, ((0, 1, 2), (0, 1, 2)), None, ((1,), (0, 1, 2)), 1, True, (1, (), ((),), ())])
        with self.assertRaises(BadText) as caught:
            read_desk("facts 1")
        self.assertEqual(vars(caught.exception), {"at": 2})
