"""Desks: hands that hold facts, with rules and promises, and deeds that can be undone and done again."""

from bothandall.errors import (
    BadMeeting, BadNumber, BadPromise, BadRow, BadRules, BadText, Broken, NothingToRedo, NothingToUndo,
)
from bothandall.kinds import is_integer_from
from bothandall.rows import MOST_HANDS, is_meeting
from bothandall.rules import (
    MOST_FACTS, MOST_RULES, closed_up, from_both, has_all, in_both, is_closed, is_lot_of_facts, is_rule, require_rules,
)

# Integers as Python writes them: the numbers of facts, the facts and the hands are all among these.
NUMBERS = {"0": 0, "1": 1, "2": 2, "3": 3, "4": 4, "5": 5, "6": 6}


def is_closed_lot(m, rules, thing):
    """Whether any value is a closed lot of facts."""
    return is_lot_of_facts(m, thing) and is_closed(rules, thing)


def is_promise(m, hands, thing):
    """Whether any value is a promise about so many facts and hands."""
    if not isinstance(thing, tuple) or len(thing) != 3:
        return False
    word, i, other = thing
    if word == "within":
        return is_meeting(hands, (i, other))
    return word in ("holds", "lacks") and is_integer_from(i, 0, hands - 1) and is_integer_from(other, 0, m - 1)


def is_kept(row, promise):
    """Whether a row keeps a promise."""
    word, i, other = promise
    if word == "within":
        return has_all(row[other], row[i])
    return (other in row[i]) == (word == "holds")


def first_broken(row, promises):
    """The first of some promises that a row does not keep, None if it keeps all."""
    for promise in promises:
        if not is_kept(row, promise):
            return promise
    return None


class Desk:
    """Facts, rules, a row of closed lots and promises, with what they were ahead of each deed."""

    def __init__(self, m, rules, row):
        require_rules(m, rules)
        if not isinstance(row, tuple) or not 1 <= len(row) <= MOST_HANDS:
            raise BadRow(row)
        if not all(is_closed_lot(m, rules, lot) for lot in row):
            raise BadRow(row)
        self._now = (m, rules, row, ())
        self._earlier = []
        self._later = []

    def standing(self):
        """The number of facts, the rules, the row and the promises."""
        return self._now

    def facts(self):
        """The number of facts."""
        return self._now[0]

    def rules(self):
        """The rules."""
        return self._now[1]

    def row(self):
        """What the hands hold."""
        return self._now[2]

    def promises(self):
        """The promises, in the order in which they were given."""
        return self._now[3]

    def text(self):
        """The text from which read_desk makes a desk with the same standing."""
        m, rules, row, promises = self._now
        lines = [("facts", m)]
        lines.extend([("rule", *ifs, ">", fact) for ifs, fact in rules])
        lines.extend([("hand", *lot) for lot in row])
        lines.extend(promises)
        return "\n".join(written(words) for words in lines)

    def undoable(self):
        """How many deeds can be undone."""
        return len(self._earlier)

    def redoable(self):
        """How many deeds can be done again."""
        return len(self._later)

    def is_same(self, thing):
        """Whether any value is a desk with an equal standing."""
        return isinstance(thing, Desk) and thing.standing() == self.standing()

    def copied(self):
        """A new desk with the same standing, and nothing to undo or to redo."""
        return desk_with(self._now)

    def meet(self, meeting):
        """Two hands meet: one goes with what both had, the other with all that follows."""
        m, rules, row, promises = self._now
        if not is_meeting(len(row), meeting):
            raise BadMeeting(meeting)
        i, j = meeting
        lots = list(row)
        lots[i], lots[j] = in_both(row[i], row[j]), from_both(rules, row[i], row[j])
        self._go_on((m, rules, tuple(lots), promises))

    def learn(self, hand, fact):
        """A hand gets all that follows from what it holds and a fact."""
        m, rules, row, promises = self._now
        if not is_integer_from(hand, 0, len(row) - 1):
            raise BadNumber(hand)
        if not is_integer_from(fact, 0, m - 1):
            raise BadNumber(fact)
        lots = list(row)
        lots[hand] = from_both(rules, row[hand], (fact,))
        self._go_on((m, rules, tuple(lots), promises))

    def rule(self, rule):
        """A rule is put behind the others, and each hand gets what then follows."""
        m, rules, row, promises = self._now
        if not is_rule(m, rule) or len(rules) == MOST_RULES:
            raise BadRules(rule)
        more = (*rules, rule)
        self._go_on((m, more, tuple(closed_up(more, lot) for lot in row), promises))

    def drop(self, number):
        """The rule at a position is taken out."""
        m, rules, row, promises = self._now
        if not is_integer_from(number, 0, len(rules) - 1):
            raise BadNumber(number)
        self._go_on((m, rules[:number] + rules[number + 1:], row, promises))

    def promise(self, words):
        """A promise is given, which is kept from now on."""
        m, rules, row, promises = self._now
        if not is_promise(m, len(row), words) or words in promises:
            raise BadPromise(words)
        self._go_on((m, rules, row, (*promises, words)))

    def release(self, words):
        """A promise is taken back."""
        m, rules, row, promises = self._now
        # The form is looked at first: a bool would pass for an integer in a comparison.
        if not is_promise(m, len(row), words) or words not in promises:
            raise BadPromise(words)
        self._go_on((m, rules, row, tuple(promise for promise in promises if promise != words)))

    def undo(self):
        """The standing becomes what it was ahead of the last deed that is not undone."""
        if len(self._earlier) == 0:
            raise NothingToUndo()
        self._later.append(self._now)
        self._now = self._earlier.pop()

    def redo(self):
        """The standing becomes what the deed that was undone last had left."""
        if len(self._later) == 0:
            raise NothingToRedo()
        self._earlier.append(self._now)
        self._now = self._later.pop()

    def _go_on(self, standing):
        """The deed gives this standing, unless it would break a promise."""
        broken = first_broken(standing[2], standing[3])
        if broken is not None:
            raise Broken(broken)
        self._earlier.append(self._now)
        self._later = []
        self._now = standing


def desk_with(standing):
    """A new desk with a standing, the promises of which are kept."""
    m, rules, row, promises = standing
    desk = Desk(m, rules, row)
    desk._now = (m, rules, row, promises)
    return desk


def written(words):
    """Words and integers as a line of a text."""
    return " ".join(str(word) for word in words)


def rule_in(parts):
    """The pair of ifs and a fact that the parts of a line tell, None if they are no such parts."""
    if parts[-2:-1] != (">",):
        return None
    return (parts[:-2], parts[-1])


def standing_with(standing, line):
    """The standing with what one more line tells, None if no text of a desk goes on so."""
    m, rules, row, promises = standing
    word, *words = line.split(" ")
    parts = tuple(NUMBERS.get(part, part) for part in words)
    if m == 0:
        return first_standing(word, parts)
    if word == "rule" and len(row) == 0 and len(rules) < MOST_RULES and is_rule(m, rule_in(parts)):
        return (m, (*rules, rule_in(parts)), row, promises)
    if word == "hand" and len(promises) == 0 and len(row) < MOST_HANDS and is_closed_lot(m, rules, parts):
        return (m, rules, (*row, parts), promises)
    told = (word, *parts)
    if is_promise(m, len(row), told) and told not in promises and is_kept(row, told):
        return (m, rules, row, (*promises, told))
    return None


def first_standing(word, parts):
    """The standing that a first line tells, so far without hands; None if no text of a desk begins so."""
    if word != "facts" or len(parts) != 1 or not is_integer_from(parts[0], 1, MOST_FACTS):
        return None
    return (parts[0], (), (), ())


def read_desk(text):
    """A new desk with the standing of a text."""
    if not isinstance(text, str):
        raise BadText(0)
    lines = text.split("\n")
    # No facts stand for the beginning, where not even their number is told.
    standing = (0, (), (), ())
    for at, line in enumerate(lines):
        standing = standing_with(standing, line)
        if standing is None:
            raise BadText(at + 1)
    if len(standing[2]) == 0:
        raise BadText(len(lines) + 1)
    return desk_with(standing)
