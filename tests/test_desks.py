from random import Random

from bothandall import desks as module
from bothandall.desks import Desk, read_desk
from bothandall.errors import (
    BadMeeting, BadNumber, BadPromise, BadRow, BadRules, BadText, Broken, HouseError, NothingToRedo, NothingToUndo,
)
from tests import oracle, oracle_desks, oracle_rows
from tests.anything import any_values, is_equal, is_plain, near
from tests.checking import Case, spread
from tests.oracle_desks import all_promises, all_rules, keeps, row_behind, text_of
from tests.samples import RULES, random_rules
from tests.test_rules import EIGHT, ODD_RULES, wrong_fact, wrong_rules
from tests.wrong import wrong_meetings, wrong_numbers

METHODS = (
    "standing", "facts", "rules", "row", "promises", "text", "undoable", "redoable", "is_same", "copied", "meet", "learn",
    "rule", "drop", "promise", "release", "undo", "redo",
)
DEEDS = ("meet", "learn", "rule", "drop", "promise", "release")


def told_of(desk):
    return desk.standing(), desk.undoable(), desk.redoable()


class Model:
    """A desk that keeps all its standings, and a place among them."""

    def __init__(self, standing):
        self.standings, self.at = [standing], 0

    def standing(self):
        return self.standings[self.at]

    def fault(self, deed, value):
        """The error that the deed raises, as a class and the value that it tells; None if it raises none."""
        m, rules, row, promises = self.standing()
        if deed in ("undo", "redo"):
            if deed == "undo":
                return (NothingToUndo, None) if self.at == 0 else None
            return (NothingToRedo, None) if self.at == len(self.standings) - 1 else None
        if deed == "meet" and not oracle_rows.is_meeting(len(row), value):
            return BadMeeting, value
        if deed == "learn":
            for part, many in zip(value, (len(row), m)):
                if not (oracle.is_integer(part) and 0 <= part < many):
                    return BadNumber, part
        if deed == "rule" and (not oracle.is_rule(m, value) or len(rules) > 7):
            return BadRules, value
        if deed == "drop" and not (oracle.is_integer(value) and 0 <= value < len(rules)):
            return BadNumber, value
        if deed in ("promise", "release"):
            right = oracle_desks.is_promise(m, len(row), value)
            if not right or (value in promises) != (deed == "release"):
                return BadPromise, value
        _, _, after, kept = row_behind(self.standing(), deed, value)
        broken = [promise for promise in kept if not keeps(after, promise)]
        return (Broken, broken[0]) if broken else None

    def does(self, deed, value):
        if deed in ("undo", "redo"):
            self.at += 1 if deed == "redo" else -1
        else:
            standing = row_behind(self.standing(), deed, value)
            self.standings = self.standings[:self.at + 1] + [standing]
            self.at += 1

    def told(self):
        return self.standing(), self.at, len(self.standings) - 1 - self.at


def called(desk, deed, value):
    """What the method of a deed returns."""
    method = getattr(desk, deed)
    if deed in ("undo", "redo"):
        return method()
    return method(*value) if deed == "learn" else method(value)


def raised(desk, deed, value):
    """The error that the method of a deed raises."""
    try:
        called(desk, deed, value)
    except HouseError as error:
        return type(error), (list(vars(error).values()) + [None])[0]
    return None


def random_desk(chance, m=None, hands=None):
    m = m or chance.randint(1, 6)
    rules = random_rules(m, chance.randint(0, 8), chance)
    lots = oracle.closed_lots(m, rules)
    return m, rules, tuple(chance.choice(lots) for _ in range(hands or chance.randint(1, 6)))


def random_deed(chance, standing):
    """A deed that may be right or wrong, or may break a promise."""
    m, rules, row, promises = standing
    deed = chance.choice(DEEDS + ("meet", "learn", "promise", "promise", "undo", "redo", "redo"))
    hands = len(row)
    values = {
        "meet": (chance.randrange(hands), chance.randrange(-1, hands + 1)),
        "learn": (chance.randrange(hands), chance.randrange(m)),
        "rule": chance.choice(all_rules(m)), "drop": chance.randrange(-1, len(rules) + 1),
        "promise": chance.choice(all_promises(m, hands)), "release": chance.choice(all_promises(m, hands)),
    }
    if deed == "release" and promises and chance.random() < 0.7:
        return deed, chance.choice(promises)
    if deed == "promise" and len(promises) > 7:
        deed = "meet"
    return deed, values.get(deed)


class NewDeskTest(Case):
    def test_what_is_told_of_it(self):
        chance = Random(1)
        for _ in range(300):
            m, rules, row = random_desk(chance)
            for desk in (Desk(m, rules, row), Desk(row=row, rules=rules, m=m)):
                self.assertTrue(is_equal(desk.standing(), (m, rules, row, ())))
                self.assertTrue(is_equal([desk.facts(), desk.rules(), desk.row(), desk.promises()], [m, rules, row, ()]))
                self.assertTrue(is_equal([desk.undoable(), desk.redoable()], [0, 0]))

    def test_edges(self):
        for m, rules, row in [(1, (), ((),)), (6, EIGHT, (tuple(range(6)),) * 6), (1, (((), 0),), ((0,),)), (6, (), ((),) * 6)]:
            self.assertTrue(is_equal(Desk(m, rules, row).standing(), (m, rules, row, ())))

    def test_errors(self):
        odd = [(), ((),) * 7, ((0,),), ((2,),), ((0, 1),), ((1, 0),), ((), [0]), [()], ((), None), ((0, 1, 2), (0, 1, 2, 3))]
        odd += [((True,),), ((0, 0),), ((3,),), ((-1,),), ((0,), (0, 1)), (0,), ((), (2,)), {(): 0}, (((),),)]
        right = ((0,), (0, 1, 2))
        rules = (((0, 1), 2), ((2,), 0), ((), 0), ((2,), 1))
        wrong = [value for value in odd + any_values() + near(right) if not oracle_desks.is_row_of_lots(3, rules, value)]
        self.refuses_in_order(Desk, {"m": 3, "rules": rules, "row": right}, [
            ("m", BadNumber, wrong_numbers(1, 6)), ("rules", BadRules, wrong_rules(3)), ("row", BadRow, wrong),
        ])

    def test_rows_of_closed_lots(self):
        for many in range(9):
            for lot in oracle.lots_of_facts(3):
                row = (lot,) * many
                if 1 <= many <= 6 and oracle.is_closed(RULES, lot):
                    self.assertEqual(Desk(3, RULES, row).row(), row)
                else:
                    self.refuses(BadRow, row, Desk, m=3, rules=RULES, row=row)

    def test_methods_of_the_class_itself(self):
        self.assertEqual(Desk.__bases__, (object,))
        for name in METHODS:
            self.assertIn(name, vars(Desk))
        self.assertEqual([Desk.__module__, read_desk.__module__], ["bothandall.desks"] * 2)
        self.assertEqual(module.Desk, Desk)


class DeedsTest(Case):
    def test_random_deeds(self):
        seen = set()
        for seed in range(250):
            chance = Random(seed)
            m, rules, row = random_desk(chance)
            desk, model = Desk(m, rules, row), Model((m, rules, row, ()))
            for _ in range(50):
                deed, value = random_deed(chance, model.standing())
                if model.at == 40 and deed not in ("undo", "redo"):
                    continue
                fault = model.fault(deed, value)
                if fault is None:
                    self.assertIs(called(desk, deed, value), None)
                    model.does(deed, value)
                else:
                    self.assertEqual(raised(desk, deed, value), fault, (model.standing(), deed, value))
                self.assertTrue(is_equal(told_of(desk), model.told()), (deed, value))
                seen.add((deed, fault and fault[0]))
        self.assertEqual({deed for deed, fault in seen if fault is None}, set(DEEDS) | {"undo", "redo"})
        faults = {(deed, fault) for deed, fault in seen if fault}
        self.assertEqual(faults, {
            ("meet", BadMeeting), ("meet", Broken), ("learn", Broken), ("rule", Broken), ("rule", BadRules), ("drop", BadNumber),
            ("promise", BadPromise), ("promise", Broken), ("release", BadPromise), ("undo", NothingToUndo), ("redo", NothingToRedo),
        })

    def test_by_name(self):
        desk, other = Desk(3, (((0, 1), 2),), ((0,), (1,))), Desk(3, (((0, 1), 2),), ((0,), (1,)))
        for call, one in [
            (lambda: desk.meet(meeting=(0, 1)), lambda: other.meet((0, 1))),
            (lambda: desk.learn(fact=1, hand=0), lambda: other.learn(0, 1)),
            (lambda: desk.rule(rule=((), 0)), lambda: other.rule(((), 0))),
            (lambda: desk.drop(number=0), lambda: other.drop(0)),
            (lambda: desk.promise(words=("within", 0, 1)), lambda: other.promise(("within", 0, 1))),
            (lambda: desk.release(words=("within", 0, 1)), lambda: other.release(("within", 0, 1))),
            (lambda: desk.undo(), lambda: other.undo()), (lambda: desk.redo(), lambda: other.redo()),
        ]:
            self.assertEqual([call(), one()], [None, None])
            self.assertTrue(is_equal(told_of(desk), told_of(other)))
            self.assertIs(desk.is_same(thing=other), True)

    def test_wrong_values(self):
        desk = Desk(3, (((0, 1), 2), ((2,), 0)), ((0,), (1,), (0, 1, 2)))
        desk.promise(("lacks", 0, 2))
        desk.promise(("within", 0, 2))
        desk.learn(2, 1)
        desk.undo()
        before = told_of(desk)
        self.refuses_in_order(desk.meet, {"meeting": (0, 1)}, [("meeting", BadMeeting, wrong_meetings(3))])
        self.refuses_in_order(desk.learn, {"hand": 1, "fact": 1}, [
            ("hand", BadNumber, wrong_fact(3)), ("fact", BadNumber, wrong_fact(3)),
        ])
        some = ODD_RULES + any_values() + near(((0, 1), 2)) + [rule for rules in ODD_RULES if type(rules) is tuple for rule in rules]
        rules = [value for value in some if not oracle.is_rule(3, value)]
        self.refuses_in_order(desk.rule, {"rule": ((), 0)}, [("rule", BadRules, rules)])
        self.refuses_in_order(desk.drop, {"number": 0}, [("number", BadNumber, wrong_fact(2))])
        odd = [("holds", 0, 3), ("lacks", 3, 0), ("within", 0, 0), ("within", 0, 3), ("holds", -1, 0), ("holds", 0, -1)]
        odd += [("holds", 0, True), ("lacks", False, 2), ("within", False, 2), ["lacks", 0, 2], ("lacks", 0), ("lacks", 0, 2, 0)]
        odd += [("lacks", (0, 2)), "lacks 0 2", ("Lacks", 0, 2), ("", 0, 2), (0, 0, 2), ("within", 0, True), ("lacks", [0], 2)]
        odd += near(("lacks", 0, 2)) + near(("within", 0, 2)) + near(("holds", 0, 0)) + any_values()
        kept = (("lacks", 0, 2), ("within", 0, 2))
        for value in odd:
            if not oracle_desks.is_promise(3, 3, value):
                self.refuses(BadPromise, value, desk.promise, words=value)
            if not oracle_desks.is_promise(3, 3, value) or value not in kept:
                self.refuses(BadPromise, value, desk.release, words=value)
        for value in kept:
            self.refuses(BadPromise, value, desk.promise, words=value)
        self.assertTrue(is_equal(told_of(desk), before))
        desk.redo()
        self.assertEqual(desk.undoable(), 3)

    def test_eight_rules(self):
        desk = Desk(3, RULES, ((), (0,)))
        for many in range(3, 8):
            desk.rule(((1, 2), 0))
            self.assertEqual(len(desk.rules()), many + 1)
        before = told_of(desk)
        for value in (((1, 2), 0), ((), 0), ((0,), 0), None):
            self.refuses(BadRules, value, desk.rule, rule=value)
        self.assertEqual(told_of(desk), before)
        desk.drop(7)
        self.assertIs(desk.rule(((0,), 1)), None)
        self.assertEqual(desk.rules(), RULES + (((1, 2), 0),) * 4 + (((0,), 1),))
        # With too many rules the promises are not looked at.
        desk.promise(("lacks", 0, 0))
        self.refuses(BadRules, ((), 0), desk.rule, rule=((), 0))
        desk.drop(0)
        self.refuses(Broken, ("lacks", 0, 0), desk.rule, rule=((), 0))

    def test_dropped_rules(self):
        # The hands keep what they hold: it is closed under fewer rules, too.
        desk = Desk(3, RULES, ((0,), (0, 1, 2)))
        for number in (1, 1, 0):
            desk.drop(number)
            self.assertEqual(desk.row(), ((0,), (0, 1, 2)))
        self.assertEqual(desk.rules(), ())
        for number in (0, -1, 1, None):
            self.refuses(BadNumber, number, desk.drop, number=number)

    def test_deeds_that_change_nothing(self):
        desk = Desk(2, (), ((0,), (0, 1)))
        desk.meet((0, 1))
        desk.learn(1, 0)
        self.assertEqual([desk.row(), desk.undoable()], [((0,), (0, 1)), 2])
        desk.undo()
        self.assertEqual(told_of(desk), ((2, (), ((0,), (0, 1)), ()), 1, 1))

    def test_one_hand(self):
        desk = Desk(1, (), ((),))
        for meeting in ((0, 0), (0, 1), (), None):
            self.refuses(BadMeeting, meeting, desk.meet, meeting=meeting)
        self.refuses(BadPromise, ("within", 0, 0), desk.promise, words=("within", 0, 0))
        desk.learn(0, 0)
        desk.promise(("holds", 0, 0))
        self.assertEqual(desk.standing(), (1, (), ((0,),), (("holds", 0, 0),)))


class PromisesTest(Case):
    def test_the_first_one_that_would_be_broken(self):
        promises = [("lacks", 0, 1), ("within", 0, 1), ("lacks", 0, 2), ("within", 0, 2)]
        for seed in range(24):
            chance = Random(seed)
            some = chance.sample(promises, 4)
            desk = Desk(3, (), ((0,), (0, 2), (0, 1)))
            for words in some:
                desk.promise(words)
            self.assertEqual(desk.promises(), tuple(some))
            for deed, value, row in [
                ("learn", (0, 2), ((0, 2), (0, 2), (0, 1))), ("learn", (0, 1), ((0, 1), (0, 2), (0, 1))),
                ("meet", (1, 0), ((0, 1, 2), (0,), (0, 1))), ("rule", ((0,), 1), None), ("rule", ((), 2), None),
            ]:
                row = row or row_behind(desk.standing(), deed, value)[2]
                broken = [words for words in some if not keeps(row, words)]
                if deed == "meet":
                    broken = [words for words in some if not keeps(((0, 2), (0,), (0, 1)), words)]
                self.assertEqual(raised(desk, deed, value), (Broken, broken[0]))
                self.assertEqual(told_of(desk)[1:], (4, 0))

    def test_promises_that_are_not_kept(self):
        desk = Desk(3, (), ((0,), (0, 2)))
        for words in all_promises(3, 2):
            if keeps(desk.row(), words):
                self.assertIs(desk.promise(words), None)
                self.refuses(BadPromise, words, desk.promise, words=words)
                desk.undo()
                self.refuses(BadPromise, words, desk.release, words=words)
            else:
                self.refuses(Broken, words, desk.promise, words=words)
                self.refuses(BadPromise, words, desk.release, words=words)

    def test_eight_promises(self):
        desk = Desk(6, (), ((0, 1, 2), (0, 1, 2, 3)))
        given = [words for words in all_promises(6, 2) if keeps(desk.row(), words)][:8]
        for words in given:
            desk.promise(words)
        self.assertEqual(desk.promises(), tuple(given))
        for words in (given[3], given[0], given[7]):
            desk.release(words)
            given.remove(words)
            self.assertEqual(desk.promises(), tuple(given))
        # What is promised again stands behind the others.
        desk.promise(("holds", 0, 0))
        self.assertEqual(desk.promises(), tuple(given) + (("holds", 0, 0),))

    def test_equal_integers_of_another_kind(self):
        desk = Desk(2, (), ((0,), (0, 1)))
        desk.promise(("holds", 1, 1))
        for words in (("holds", True, 1), ("holds", 1, True), ["holds", 1, 1]):
            self.refuses(BadPromise, words, desk.release, words=words)
            self.refuses(BadPromise, words, desk.promise, words=words)


class UndoneTest(Case):
    def test_to_the_beginning_and_to_the_end(self):
        for seed in range(30):
            chance = Random(seed)
            model = Model((*random_desk(chance, hands=3), ()))
            desk = Desk(*model.standing()[:3])
            while model.at < 40:
                deed, value = random_deed(chance, model.standing())
                if deed not in ("undo", "redo") and model.fault(deed, value) is None:
                    called(desk, deed, value)
                    model.does(deed, value)
            for at in reversed(range(40)):
                self.assertIs(desk.undo(), None)
                self.assertTrue(is_equal(told_of(desk), (model.standings[at], at, 40 - at)))
            self.refuses_plainly(NothingToUndo, desk.undo)
            for at in range(1, 41):
                self.assertIs(desk.redo(), None)
                self.assertTrue(is_equal(told_of(desk), (model.standings[at], at, 40 - at)))
            self.refuses_plainly(NothingToRedo, desk.redo)
            self.assertEqual(told_of(desk), (model.standings[40], 40, 0))

    def refuses_plainly(self, error, method):
        """A method raises an error that tells nothing more."""
        with self.assertRaises(HouseError) as caught:
            method()
        self.assertIs(type(caught.exception), error)
        self.assertEqual(vars(caught.exception), {})

    def test_a_deed_behind_an_undo(self):
        for deed, value in [
            ("meet", (0, 1)), ("learn", (0, 0)), ("rule", ((), 0)), ("drop", 0), ("promise", ("lacks", 0, 1)),
            ("release", ("holds", 0, 0)),
        ]:
            desk = Desk(3, (((1,), 2),), ((0,), (1, 2)))
            desk.promise(("holds", 0, 0))
            desk.release(("holds", 0, 0))
            desk.promise(("lacks", 1, 0))
            desk.undo()
            desk.undo()
            self.assertEqual(told_of(desk)[1:], (1, 2))
            if deed == "meet":
                # The promise that is given would not be kept.
                desk.undo()
            called(desk, deed, value)
            self.assertEqual(desk.redoable(), 0)
            self.refuses_plainly(NothingToRedo, desk.redo)

    def test_a_deed_that_raises_an_error(self):
        desk = Desk(3, (((1,), 2),), ((0,), (1, 2)))
        desk.promise(("holds", 0, 0))
        desk.learn(1, 0)
        desk.undo()
        before = told_of(desk)
        for deed, value in [
            ("meet", (0, 0)), ("meet", (0, 1)), ("learn", (0, 3)), ("learn", (2, 0)), ("rule", ((), 3)), ("drop", 1),
            ("promise", ("holds", 0, 1)), ("promise", ("holds", 0, 0)), ("release", ("holds", 0, 1)), ("release", None),
        ]:
            self.assertNotEqual(raised(desk, deed, value), None)
            self.assertEqual(told_of(desk), before)
        desk.redo()
        self.assertEqual(desk.row(), ((0,), (0, 1, 2)))

    def test_copies_go_their_own_way(self):
        for seed in range(40):
            chance = Random(seed)
            model = Model((*random_desk(chance), ()))
            desk = Desk(*model.standing()[:3])
            for _ in range(12):
                deed, value = random_deed(chance, model.standing())
                if model.fault(deed, value) is None:
                    called(desk, deed, value)
                    model.does(deed, value)
            other = desk.copied()
            self.assertTrue(is_equal(told_of(other), (desk.standing(), 0, 0)))
            self.assertTrue(other is not desk and desk.is_same(other) and other.is_same(desk))
            second = Model(model.standing())
            for one, of in ((desk, model), (other, second)):
                for _ in range(8):
                    deed, value = random_deed(chance, of.standing())
                    fault = of.fault(deed, value)
                    self.assertEqual(raised(one, deed, value), fault)
                    if fault is None:
                        of.does(deed, value)
            self.assertEqual([told_of(desk), told_of(other)], [model.told(), second.told()])


class SameTest(Case):
    def test_any_value(self):
        desk = Desk(2, (), ((), (0,)))
        for value in any_values() + [desk.standing(), desk.text(), (desk,), [desk], Desk]:
            self.assertIs(self.told(desk.is_same, thing=value), False)
        self.assertIs(desk.is_same(desk), True)

    def test_each_part_of_the_standing(self):
        desks = [
            Desk(2, (), ((), (0,))), Desk(3, (), ((), (0,))), Desk(2, (((0,), 1),), ((), (0, 1))), Desk(2, (), ((0,), ())),
            Desk(2, (), ((), (0,), ())), Desk(2, (), ((),)), Desk(2, (((1,), 0),), ((), (0,))), Desk(2, (), ((), (0,))),
            Desk(2, (), ((), (0,))), Desk(2, (), ((), (0,))),
        ]
        desks[7].promise(("lacks", 0, 0))
        for words in (("lacks", 0, 0), ("holds", 1, 0)):
            desks[8].promise(words)
        for words in (("holds", 1, 0), ("lacks", 0, 0)):
            desks[9].promise(words)
        for at, one in enumerate(desks):
            for place, other in enumerate(desks):
                self.assertIs(one.is_same(other), at == place)

    def test_unlike_ways_to_one_standing(self):
        one, other = Desk(2, (), ((), (0,))), Desk(2, (), ((), ()))
        other.learn(1, 0)
        self.assertTrue(one.is_same(other) and other.is_same(one))
        other.undo()
        self.assertFalse(one.is_same(other) or other.is_same(one))


def some_standings():
    found = [
        (1, (), ((),), ()), (6, EIGHT, (tuple(range(6)),) * 6, (("holds", 5, 5), ("within", 0, 5))),
        (3, (((0, 1), 2),), ((1,), (0, 1, 2)), (("within", 0, 1),)), (2, (((), 0),) * 8, ((0,), (0, 1)), ()),
        (2, (((), 1), ((1,), 0)), ((0, 1),), (("holds", 0, 0), ("holds", 0, 1))),
    ]
    for seed in range(60):
        chance = Random(seed)
        m, rules, row = random_desk(chance)
        kept = [words for words in all_promises(m, len(row)) if keeps(row, words)]
        found.append((m, rules, row, tuple(chance.sample(kept, min(len(kept), chance.randint(0, 8))))))
    return found


STANDINGS = some_standings()


def desk_of(standing):
    desk = Desk(*standing[:3])
    for words in standing[3]:
        desk.promise(words)
    return desk


def other_texts(text, chance):
    """Texts that differ from a text in a line, or in a sign."""
    lines = text.split("\n")
    found = [text + "\n", "\n" + text, text + " ", " " + text, text + "\n\n", text.replace("\n", " "), text.replace("\n", "\n\n")]
    found += [text.replace(" ", "  "), text.upper(), text + "\n" + text, text.replace("\n", "\r\n"), text.replace(" ", "\t")]
    for at in range(len(lines)):
        some = [lines[:at] + lines[at + 1:], lines[:at] + lines[at:at + 1] * 2 + lines[at + 1:], lines[:at + 1], lines[at:]]
        place = chance.randrange(len(lines))
        moved = lines[:at] + lines[at + 1:]
        some += [moved[:place] + lines[at:at + 1] + moved[place:]]
        for one in (at - 1, place):
            changed = list(lines)
            changed[at], changed[one] = lines[one], lines[at]
            some.append(changed)
        for line in spread(other_lines(lines[at]), 16):
            some.append(lines[:at] + [line] + lines[at + 1:])
        found += ["\n".join(one) for one in some]
    for at in range(len(text) + 1):
        found.append(text[:at])
        found.append(text[:at] + text[at + 1:])
        for sign in chance.sample(" \n0123456789>-+~abhlw", 2):
            found.append(text[:at] + sign + text[at + 1:])
            found.append(text[:at] + sign + text[at:])
    return found


def other_lines(line):
    words = line.split(" ")
    found = [line + " ", " " + line, line + " 0", line + " 5", line + " >", "", "hand", "rule", "facts", "rule >", "rule > 0", "hand 0"]
    found += ["facts 1", "facts 7", "facts 0", "facts 6", "within 0 1", "within 1 0", "holds 0 0", "lacks 0 0", line.replace(" ", ", ")]
    for at in range(len(words)):
        for word in ("0", "1", "5", "6", "7", "00", "01", "+1", "-0", "-1", "1.0", "0x1", "1_0", "", ">", "hand", "True", "None"):
            found.append(" ".join(words[:at] + [word] + words[at + 1:]))
        found.append(" ".join(words[:at] + words[at + 1:]))
        found.append(" ".join(words[:at] + words[at:at + 1] * 2 + words[at + 1:]))
        found.append(" ".join(words[:at] + [words[at].zfill(2)] + words[at + 1:]))
    return found


class TextTest(Case):
    def test_texts(self):
        for standing in STANDINGS:
            desk = desk_of(standing)
            self.assertTrue(is_equal(desk.text(), text_of(standing)))
            for other in (read_desk(desk.text()), read_desk(text=desk.text())):
                self.assertTrue(is_equal(told_of(other), (standing, 0, 0)))
                self.assertTrue(is_plain(other.standing()))

    def test_other_texts(self):
        places = set()
        for seed, standing in enumerate(STANDINGS):
            chance = Random(seed)
            for text in spread(other_texts(text_of(standing), chance), 500):
                right = oracle_desks.read(text)
                if type(right) is int:
                    self.refuses(BadText, right, read_desk, text=text)
                    places.add(right)
                else:
                    self.assertTrue(is_equal(told_of(read_desk(text)), (right, 0, 0)), text)
        self.assertTrue(set(range(1, 18)) <= places)

    def test_single_lines(self):
        for text, at in [
            ("", 1), ("\n", 1), ("facts", 1), ("facts 1", 2), ("facts 1\n", 2), ("facts 7", 1), ("facts 0", 1), ("facts 01", 1),
            ("facts 1\nhand\n", 3), ("facts 1\nhand 1", 2), ("facts 1\nhand 0 0", 2), ("facts 2\nhand 1 0", 2), ("facts 1\nhand ", 2),
            ("facts 1\nrule > 0", 3), ("facts 1\nrule > 0\nhand", 3), ("facts 1\nrule >", 2), ("facts 1\nrule 0 > 0", 2),
            ("facts 1\nrule", 2), ("facts 2\nrule 0 1", 2), ("facts 2\nrule 0 > 1 ", 2), ("facts 2\nrule 0 > 1 > 0", 2),
            ("facts 1\nhand\nrule > 0", 3), ("facts 1\nholds 0 0", 2), ("facts 1\nhand\nholds 0 0", 3), ("facts 1\nhand\nlacks 1 0", 3),
            ("facts 1\nhand\nlacks 0 0\nlacks 0 0", 4), ("facts 1\nhand\nlacks 0 0\nhand", 4), ("facts 1\nhand\nwithin 0 0", 3),
            ("facts 1" + "\nrule > 0" * 9, 10), ("facts 1" + "\nrule > 0" * 8, 10), ("facts 1" + "\nhand" * 7, 8), ("facts 1\nfacts 1", 2),
            ("facts 1\nhand\nwithin 0 1", 3), ("facts 1\nhand 0\nhand\nwithin 0 1", 4), ("facts 1\nhand\nlacks 0 1", 3),
        ]:
            self.assertEqual(oracle_desks.read(text), at, text)
            self.refuses(BadText, at, read_desk, text=text)
        for text in ("facts 1\nhand", "facts 1" + "\nhand 0" * 6, "facts 1" + "\nrule > 0" * 8 + "\nhand 0", "facts 1\nhand\nlacks 0 0"):
            self.assertEqual(read_desk(text).text(), text)

    def test_any_value(self):
        desk = Desk(1, (), ((),))
        for value in any_values() + [desk, [desk.text()], (desk.text(),), desk.text().encode(), desk.standing()]:
            self.refuses(BadText, oracle_desks.read(value), read_desk, text=value)


class PassedTest(Case):
    def test_what_was_passed_is_as_before(self):
        rules, row = (((0, 1), 2),), ((0,), (1,))
        meeting, words = (0, 1), ("within", 0, 1)
        before = repr((rules, row, meeting, words))
        desk = Desk(3, rules, row)
        told = [desk.rules(), desk.row(), desk.standing(), desk.promises()]
        desk.meet(meeting)
        desk.promise(words)
        desk.rule(((2,), 0))
        self.assertEqual(repr((rules, row, meeting, words)), before)
        self.assertEqual(told, [rules, row, (3, rules, row, ()), ()])

    def test_results_that_are_asked_for_change_nothing(self):
        desk = Desk(3, (((0, 1), 2),), ((0,), (1,)))
        desk.meet((0, 1))
        desk.undo()
        before = told_of(desk)
        for _ in range(2):
            for name in METHODS[:8] + ("copied",):
                getattr(desk, name)()
            desk.is_same(desk)
            self.assertEqual(told_of(desk), before)
