"""The names and the parameters of the interface, as the document lists them."""

import inspect
from importlib import import_module
from unittest import TestCase

from bothandall.desks import Desk

FUNCTIONS = {
    "rules": """
        are_rules(m, thing) closure(m, rules, lot) closed_lots(m, rules) house_of(m, rules)
        judge_follows(m, rules, lot, fact) follows_holds(m, rules, lot, fact, thing) say_same(m, rules, others)
        needless_rules(m, rules) fewer_rules(m, rules)
    """,
    "houses": """
        is_table(thing) is_house(thing) judge_house(table) house_holds(table, thing) both(house, x, y)
        all_of(house, x, y) is_within(house, x, y) least(house) greatest(house) pieces(house) depths(house)
        steps_above(house, x)
    """,
    "making": """
        turned_over(house) beside(one, other) above(one, other) stretch(house, x, y) judge_alike(one, other)
        alike_holds(one, other, thing)
    """,
    "straight": """
        judge_straight(house) straight_holds(house, thing) is_straight(house) pieces_within(house, x)
        lot_with(house, lots) rules_for(house) judge_sums(house, way) sums_hold(house, way, thing)
    """,
    "rows": """
        is_row(house, thing) is_plan(hands, thing) met(house, row, meeting) behind(house, row, plan)
        ledger(house, row, plan) strange_pairs(house, row) is_at_rest(house, row) line_of(house, row)
        resting_plan(house, row)
    """,
    "ends": """
        ends_of(house, row) judge_end(house, row, line) end_holds(house, row, line, thing) judge_one_end(house, row)
        one_end_holds(house, row, thing) judge_ends(house) ends_hold(house, thing) floors(house, row)
        ceilings(house, row)
    """,
    "before": """
        judge_same_end(house, one, other) same_end_holds(house, one, other, thing) rows_before(house, line)
        piece_counts(house, row) judge_led(house, one, other) led_holds(house, one, other, thing)
    """,
    "bits": """
        judge_bits(hands, plan) bits_hold(hands, plan, thing) judge_same_bits(hands, one, other)
        same_bits_hold(hands, one, other, thing) idle_meetings(hands, plan) least_plan(hands)
    """,
    "parts": """
        parts_of(hands, plan) held_parts(hands, plan) is_derivation(hands, plan, thing)
        is_parts_order(hands, plan, thing)
    """,
    "lining": """
        judge_lining(hands, plan) lining_holds(hands, plan, thing) judge_same_plans(hands, one, other)
        same_plans_hold(hands, one, other, thing) strange_row(house, hands, plan)
    """,
    "told": """
        are_told(hands, thing) judge_told_bits(hands, told, plan) told_bits_hold(hands, told, plan, thing)
        judge_told(hands, told, plan) told_holds(hands, told, plan, thing) needless_pairs(hands, told, plan)
    """,
    "ties": """
        are_ties(hands, thing) judge_round(hands, ties) round_holds(hands, ties, thing) ring_row(hands, ties)
        judge_way(hands, ties) way_holds(hands, ties, thing) strange_still(hands, ties)
    """,
    "still": """
        is_still(house, row, ties) ended_plan(house, row, ties) is_tied_plan(house, row, ties, thing)
        still_ends(house, row, ties) longest_tied(house, row, ties)
    """,
    "things": """
        is_thing(kind, size, thing) both_things(kind, size, one, other) all_things(kind, size, one, other)
        is_within_thing(kind, size, one, other) house_of_things(kind, size) many_things(kind, size)
        resting_line(kind, size, row) things_behind(kind, size, row, plan)
    """,
    "crooked": """
        judge_rules(m, rules) rules_hold(m, rules, thing) cut_of(m, rules) is_cut(m, rules, thing) mend_of(m, rules)
        is_mend(m, rules, thing)
    """,
    "maps": """
        judge_map(house, other, lots) map_holds(house, other, lots, thing) led_row(house, other, lots, row)
    """,
    "partings": """
        is_parting(house, thing) judge_parting(house, parting) parting_holds(house, parting, thing)
        house_of_blocks(house, parting) least_kept(house, pairs) judge_simple(house) simple_holds(house, thing)
    """,
    "holders": """
        holders_now(house, row, lot) holders(house, row, lot) judge_saying(house, row, lot, k)
        saying_holds(house, row, lot, k, thing) sure_lots(house, row, k) open_lots(house, row, k)
    """,
    "desks": """
        read_desk(text)
    """,
}
METHODS = """
    standing() facts() rules() row() promises() text() undoable() redoable() is_same(thing) copied() meet(meeting)
    learn(hand, fact) rule(rule) drop(number) promise(words) release(words) undo() redo()
"""


def listed(text):
    """Pairs of a name and of the list of its parameters."""
    found = []
    for part in text.split(")")[:-1]:
        name, parameters = part.split("(")
        found.append((name.strip(), [one.strip() for one in parameters.split(",") if one.strip()]))
    return found


class InterfaceTest(TestCase):
    def test_functions(self):
        for file, text in FUNCTIONS.items():
            module = import_module("bothandall." + file)
            for name, parameters in listed(text):
                function = getattr(module, name)
                self.assertTrue(inspect.isfunction(function), name)
                self.assertEqual(function.__module__, module.__name__, name)
                self.assertEqual(list(inspect.signature(function).parameters), parameters, name)
        self.assertEqual(sum(len(listed(text)) for text in FUNCTIONS.values()), 123)

    def test_desk(self):
        self.assertTrue(inspect.isclass(Desk))
        self.assertEqual([Desk.__module__, list(inspect.signature(Desk).parameters)], ["bothandall.desks", ["m", "rules", "row"]])
        for name, parameters in listed(METHODS):
            self.assertEqual(list(inspect.signature(vars(Desk)[name]).parameters), ["self"] + parameters, name)

    def test_by_position_or_by_name(self):
        plain = inspect.Parameter.POSITIONAL_OR_KEYWORD
        functions = [
            getattr(import_module("bothandall." + file), name) for file, text in FUNCTIONS.items() for name, _ in listed(text)
        ]
        for function in functions + [getattr(Desk, name) for name, _ in listed(METHODS)] + [Desk]:
            for parameter in inspect.signature(function).parameters.values():
                self.assertEqual([parameter.kind, parameter.default], [plain, inspect.Parameter.empty], function)
