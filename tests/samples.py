"""Rules and houses that many tests go over."""

from itertools import permutations, product
from random import Random

from tests import oracle

FLAT = ((1, 1, 1, 1, 1), (0, 1, 0, 0, 1), (0, 0, 1, 0, 1), (0, 0, 0, 1, 1), (0, 0, 0, 0, 1))
LEANING = ((1, 1, 1, 1, 1), (0, 1, 1, 0, 1), (0, 0, 1, 0, 1), (0, 0, 0, 1, 1), (0, 0, 0, 0, 1))
ONE = ((1,),)
TWO = ((1, 1), (0, 1))
RULES = (((0, 1), 2), ((2,), 0), ((2,), 1))


def chain(many):
    return tuple(tuple(int(x <= y) for y in range(many)) for x in range(many))


def flat(many):
    """A least lot, a greatest one, and all others between them, none within another one."""
    last = many - 1
    return tuple(tuple(int(x == y or x == 0 or y == last) for y in range(many)) for x in range(many))


def pairs_house(one, other):
    lots = list(product(range(len(one)), range(len(other))))
    return tuple(tuple(one[a][c] * other[b][d] for c, d in lots) for a, b in lots)


def of_pairs(many, pairs):
    """Lots within themselves and as told; 0 is within all, all are within the last one."""
    last = many - 1
    return tuple(
        tuple(int(x == y or x == 0 or y == last or (x, y) in pairs) for y in range(many)) for x in range(many)
    )


def renamed(house, names):
    back = [names.index(x) for x in range(len(house))]
    return tuple(tuple(house[a][b] for b in back) for a in back)


def shuffled(house, seed):
    names = list(range(len(house)))
    Random(seed).shuffle(names)
    return renamed(house, names)


def shared_sets_house(most, seed):
    """A house of sets, with any two of which their common part is there, too."""
    chance = Random(seed)
    sets = {(1 << 6) - 1}
    for _ in range(60):
        more = set(sets) | {chance.randrange(1 << 6)}
        while True:
            grown = more | {a & b for a in more for b in more}
            if grown == more:
                break
            more = grown
        if len(more) <= most:
            sets = more
    lots = sorted(sets)
    chance.shuffle(lots)
    return tuple(tuple(int(a & b == a) for b in lots) for a in lots)


CUBE = pairs_house(TWO, pairs_house(TWO, TWO))
LARGE = [
    chain(24), flat(24), pairs_house(chain(4), chain(6)), pairs_house(CUBE, chain(3)), pairs_house(flat(6), chain(4)),
    shared_sets_house(24, 5), shared_sets_house(24, 11), pairs_house(LEANING, chain(4)),
]
SMALL = [
    ONE, TWO, chain(3), flat(4), FLAT, LEANING, chain(7), CUBE, flat(9), pairs_house(TWO, FLAT),
    pairs_house(LEANING, TWO), pairs_house(chain(3), chain(3)), of_pairs(6, {(1, 2), (3, 4)}),
    of_pairs(8, {(1, 4), (1, 5), (2, 4), (2, 6), (3, 5), (3, 6)}), shared_sets_house(9, 1), shared_sets_house(12, 2),
]
HOUSES = SMALL + LARGE
HOUSES += [shuffled(house, seed) for seed, house in enumerate(SMALL[2:] + LARGE)]
HOUSES += [tuple(zip(*house)) for house in HOUSES]


def small_tables():
    """All tables of one, two and three lots, and some larger ones, most of which are no houses."""
    found = []
    for many in (1, 2, 3):
        for bits in product((0, 1), repeat=many * many):
            found.append(tuple(bits[many * x:many * x + many] for x in range(many)))
    return found


def spoiled_houses():
    """Houses in which one bit is another one."""
    chance = Random(3)
    found = []
    for house in HOUSES:
        for _ in range(6):
            x, y = chance.randrange(len(house)), chance.randrange(len(house))
            row = house[x][:y] + (1 - house[x][y],) + house[x][y + 1:]
            found.append(house[:x] + (row,) + house[x + 1:])
    # Orders in which two lots have no both, or no all, though some lots are within both.
    crown = of_pairs(6, {(1, 3), (1, 4), (2, 3), (2, 4)})
    found += [crown, shuffled(crown, 4), tuple(zip(*crown)), ((1, 0), (0, 1)), ((1, 0, 1), (0, 1, 1), (0, 0, 1))]
    found += [tuple(row[:5] for row in crown[:5]), tuple(row[1:] for row in crown[1:])]
    return found


def random_rules(m, many, chance):
    rules = []
    while len(rules) < many:
        lot = tuple(sorted(chance.sample(range(m), chance.randint(0, m - 1))))
        rules.append((lot, chance.choice([fact for fact in range(m) if fact not in lot])))
    return tuple(rules)


def rules_of_all_sizes():
    """Pairs of a number of facts and rules, from no rules to eight, some of them twice."""
    chance = Random(7)
    found = [(1, ()), (1, (((), 0),)), (1, (((), 0),) * 8), (6, ()), (3, RULES), (2, (((0,), 1), ((), 1)))]
    found += [(4, (((0,), 1), ((1,), 2), ((2,), 3), ((3,), 0))), (3, (((0, 1), 2), ((0, 1), 2)))]
    found += [(6, tuple((tuple(k for k in range(5)), 5) for _ in range(8)))]
    found += [(6, (((0,), 1), ((1,), 2), ((2,), 3), ((3,), 4), ((4,), 5), ((0,), 5), ((1,), 4), ((), 0)))]
    for m in range(1, 7):
        for many in range(9):
            for _ in range(4):
                rules = random_rules(m, many, chance)
                found.append((m, rules))
                found.append((m, (rules + rules[:2])[:8]))
    return found


def rules_within_the_limit():
    return [(m, rules) for m, rules in rules_of_all_sizes() if len(oracle.closed_lots(m, rules)) <= 24]


def house_of_pieces(many, pairs):
    """The straight house of so many pieces, the first one of each pair being within the second one."""
    rules = tuple(((q,), p) for p, q in pairs)
    return oracle.house_of(many, rules)


# Pairs of pieces: fence and crown have just as many as rules may have, or one less, the others have more.
FENCE = house_of_pieces(6, [(low, high) for low in (0, 1) for high in (2, 3, 4, 5)])
CROWN = house_of_pieces(6, [(low, high) for low in (0, 1, 2, 3) for high in (4, 5)])
BRIDGE = house_of_pieces(6, [(low, high) for low in (0, 1, 2) for high in (3, 4, 5)])
STRAIGHT = [
    ONE, TWO, chain(3), chain(7), CUBE, pairs_house(TWO, TWO), pairs_house(TWO, chain(3)), chain(24), FENCE, CROWN,
    BRIDGE, pairs_house(chain(3), chain(5)), pairs_house(chain(4), chain(4)), pairs_house(chain(4), chain(6)),
    pairs_house(CUBE, chain(3)), pairs_house(TWO, CUBE), house_of_pieces(3, [(0, 2), (1, 2)]),
    house_of_pieces(4, [(0, 2), (1, 2), (1, 3)]),
]
STRAIGHT += [shuffled(house, seed + 20) for seed, house in enumerate(STRAIGHT[2:])]
CROOKED = [
    FLAT, LEANING, flat(6), flat(24), pairs_house(TWO, FLAT), pairs_house(LEANING, TWO), pairs_house(LEANING, chain(4)),
    of_pairs(6, {(1, 2), (3, 4)}), of_pairs(8, {(1, 4), (1, 5), (2, 4), (3, 5), (3, 6)}),
    of_pairs(7, {(1, 2), (1, 3), (2, 3), (4, 5)}), pairs_house(flat(6), chain(4)), shared_sets_house(12, 2),
    # Of these the one has flat lots alone, the other one leaning ones alone.
    pairs_house(FLAT, chain(4)), of_pairs(24, {(x, y) for x in range(1, 22) for y in range(x, 22)}),
]
CROOKED += [shuffled(house, seed + 50) for seed, house in enumerate(CROOKED)]
CROOKED += [tuple(zip(*house)) for house in CROOKED[2:14]]
CROOKED = [house for house in CROOKED if len(house) > 4]


def some_rows(house, hands, many, seed):
    """Random rows of so many hands, the first one of lots that are as often strange as may be."""
    chance = Random(seed)
    strange = [x for x in range(len(house)) if 1 < sum(house[x]) < len(house)] or list(range(len(house)))
    chance.shuffle(strange)
    found = [tuple(strange[hand % len(strange)] for hand in range(hands))]
    while len(found) < many:
        found.append(tuple(chance.randrange(len(house)) for _ in range(hands)))
    return found


def some_plan(hands, many, seed):
    chance = Random(seed)
    return tuple(tuple(chance.sample(range(hands), 2)) for _ in range(many)) if hands > 1 else ()


SIX = (
    (0, 1), (2, 3), (0, 2), (4, 5), (3, 5), (1, 3), (1, 2), (0, 4), (1, 2), (3, 5), (1, 5), (0, 1), (2, 4), (1, 2), (3, 4),
)
# The first hand meets all others, then the next one does, and so on: this lines up in all houses.
LADDERS = {
    hands: tuple((i, j) for i in range(hands) for j in range(i + 1, hands)) for hands in range(1, 7)
}


def turned_plan(plan):
    """The same meetings with the two hands of each exchanged."""
    return tuple((j, i) for i, j in plan)


def renamed_plan(plan, names):
    return tuple((names[i], names[j]) for i, j in plan)


def plans_of(hands, most, seed):
    """Plans of so many hands with at most so many meetings: random ones, ladders, with idle meetings, and more."""
    if hands == 1:
        return [()]
    names = list(range(hands))
    Random(seed).shuffle(names)
    ladder = LADDERS[hands]
    found = [(), ((0, 1),), ((1, 0),), ((0, 1),) * most, ladder, turned_plan(ladder), renamed_plan(ladder, names)]
    found += [ladder[:-1], ladder[1:], ladder + ladder[:2], ladder[:1] + ladder, ladder[::-1], ladder + turned_plan(ladder[-2:])]
    found += [some_plan(hands, many, seed + many) for many in (1, 2, 3, 5, 8, 12, most)]
    if hands == 6:
        found += [SIX, turned_plan(SIX), renamed_plan(SIX, names), SIX[:-1], SIX[::-1], SIX + SIX[-1:]]
    return [plan for plan in found if len(plan) <= most]


def some_told(hands, seed):
    """Told pairs of so many hands: none, all, in one line, round, leading by others, and random ones."""
    every = tuple((i, j) for i in range(hands) for j in range(hands) if i != j)
    names = list(range(hands))
    Random(seed).shuffle(names)
    line = tuple(zip(names, names[1:]))
    chance = Random(seed + 1)
    found = [(), every, tuple(sorted(line)), tuple(sorted(set(line + ((names[-1], names[0]),)) if hands > 1 else ()))]
    found += [tuple(sorted(line[1:])), tuple(sorted(line[::2])), tuple(pair for pair in every if pair[0] < pair[1])]
    found += [tuple(sorted(chance.sample(every, min(many, len(every))))) for many in (1, 2, 3, 4)]
    return sorted(set(found))


def ties_of(hands, seed):
    """Ties of so many hands: none, all, a way, its beginning, with more ties, rings of all sizes, and random ones."""
    every = list(permutations(range(hands), 2))
    names = list(range(hands))
    chance = Random(seed)
    chance.shuffle(names)
    way = list(zip(names, names[1:]))
    onward = [(names[i], names[j]) for i in range(hands) for j in range(i + 1, hands)]
    found = [[], every, way, way[1:], way[::2], onward, onward[:-1], onward[1:], way + onward[::2]]
    found += [way + [(names[many], names[0])] for many in range(1, hands)]
    found += [chance.sample(some, min(many, len(some))) for many in (1, 2, 3, 4, 6, 9, 14) for some in (every, onward)]
    return sorted({tuple(sorted(set(ties))) for ties in found})
