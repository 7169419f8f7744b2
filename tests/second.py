"""Second ways to reckon what the program tells, and yards of each sort to reckon it of."""

import itertools
import random

from noaslong.beside import Beside
from noaslong.lots import Lots
from noaslong.mirrors import Mirror
from noaslong.parts import Part
from noaslong.rows import Rows
from noaslong.seats import Seats
from noaslong.ties import Ties


def heaps_of(many):
    """All heaps of so many things."""
    return [list(heap) for size in range(many + 1) for heap in itertools.combinations(range(many), size)]


def worths(yard):
    """What each heap of the yard is worth."""
    return [yard.worth(heap) for heap in heaps_of(yard.many())]


def pieces(places, pairs):
    """Into how many pieces the places fall: one place after another is walked from, as far as ties lead."""
    left, count = set(range(places)), 0
    while left:
        count += 1
        walk = [left.pop()]
        while walk:
            here = walk.pop()
            for one, other in pairs:
                for there in ((other,) if one == here else ()) + ((one,) if other == here else ()):
                    if there in left:
                        left.discard(there)
                        walk.append(there)
    return count


def ties_worth(places, pairs):
    return places - pieces(places, pairs)


def xor(rows):
    total = 0
    for row in rows:
        total ^= row
    return total


def is_sum_of_some(row, others):
    return any(xor(some) == row for size in range(len(others) + 1) for some in itertools.combinations(others, size))


def rows_worth_by_words(rows):
    """The most rows such that none is the sum of some others, just as the document says it. For few rows."""
    for size in range(len(rows), -1, -1):
        for some in itertools.combinations(rows, size):
            if not any(is_sum_of_some(some[at], some[:at] + some[at + 1:]) for at in range(size)):
                return size


def rows_worth(rows):
    """How often the number of all sums doubles."""
    sums = {0}
    for row in rows:
        sums |= {total ^ row for total in sums}
    return len(sums).bit_length() - 1


def lots_worth_by_words(tops, lots):
    """Each thing counts while fewer than its lot's top have counted."""
    counted = [0] * len(tops)
    for lot in lots:
        if counted[lot] < tops[lot]:
            counted[lot] += 1
    return sum(counted)


def lots_worth(tops, lots):
    """The most things together of which no lot has more than its top. For few things."""
    for size in range(len(lots), -1, -1):
        for some in itertools.combinations(lots, size):
            if all(some.count(lot) <= tops[lot] for lot in some):
                return size


def seats_worth(rows):
    """All ways to sit, one thing after another: which sets of seats may be taken."""
    taken = {frozenset()}
    for row in rows:
        taken |= {seats | {seat} for seats in taken for seat in row if seat not in seats}
    return max(len(seats) for seats in taken)


def layered_worth(yard, heap):
    """The worth of a heap of a mirror, a part or two yards side by side, just as the document says it."""
    if isinstance(yard, Mirror):
        every = range(yard.of().many())
        out = [thing for thing in every if thing not in heap]
        return len(heap) + second_worth(yard.of(), out) - second_worth(yard.of(), every)
    if isinstance(yard, Part):
        others = [thing for thing in range(yard.of().many()) if thing not in yard.away() + yard.granted()]
        these = [others[thing] for thing in heap]
        return second_worth(yard.of(), these + yard.granted()) - second_worth(yard.of(), yard.granted())
    start = yard.one().many()
    there = [thing - start for thing in heap if thing >= start]
    return second_worth(yard.one(), [thing for thing in heap if thing < start]) + second_worth(yard.other(), there)


def second_worth(yard, heap):
    """The worth of a heap, the second way."""
    if isinstance(yard, (Mirror, Part, Beside)):
        return layered_worth(yard, heap)
    if isinstance(yard, Ties):
        return ties_worth(yard.places(), [yard.pairs()[thing] for thing in heap])
    if isinstance(yard, Rows):
        return rows_worth([yard.rows()[thing] for thing in heap])
    if isinstance(yard, Lots):
        return lots_worth_by_words(yard.tops(), [yard.lots()[thing] for thing in heap])
    if not isinstance(yard, Seats):
        return yard.worth(list(heap))
    return seats_worth([yard.rows()[thing] for thing in heap])


def some_ties(dice, places, many):
    return Ties(places, [(dice.randrange(places), dice.randrange(places)) for at in range(many)])


def some_rows(dice, bits, many):
    return Rows([dice.randrange(1 << bits) for at in range(many)])


def some_lots(dice, most, tops, many):
    return Lots([dice.randrange(most + 1) for at in range(tops)], [dice.randrange(tops) for at in range(many)])


def some_seats(dice, seats, most, many):
    return Seats(seats, [dice.sample(range(seats), dice.randrange(min(most, seats) + 1)) for at in range(many)])


def small_ties():
    yards = [Ties(places, list(pairs)) for places in (1, 2, 3) for many in range(3)
             for pairs in itertools.product(itertools.product(range(places), repeat=2), repeat=many)]
    dice = random.Random(7)
    return yards + [some_ties(dice, dice.randrange(1, 13), dice.randrange(3, 7)) for at in range(60)]


def small_rows():
    yards = [Rows(list(rows)) for many in range(4) for rows in itertools.product(range(4), repeat=many)]
    dice = random.Random(8)
    return yards + [some_rows(dice, dice.choice((2, 3, 4, 12)), dice.randrange(3, 7)) for at in range(60)]


def small_lots():
    yards = [Lots(list(tops), list(lots)) for count in range(3) for tops in itertools.product(range(3), repeat=count)
             for many in range(4) for lots in itertools.product(range(count), repeat=many)]
    dice = random.Random(9)
    return yards + [some_lots(dice, 3, dice.randrange(1, 9), dice.randrange(3, 7)) for at in range(60)]


def small_seats():
    yards = []
    for seats in range(3):
        rows = [list(row) for size in range(seats + 1) for row in itertools.permutations(range(seats), size)]
        yards += [Seats(seats, list(some)) for many in range(4) for some in itertools.product(rows, repeat=many)]
    dice = random.Random(10)
    return yards + [some_seats(dice, dice.randrange(1, 8), 3, dice.randrange(3, 7)) for at in range(80)]


def small_yards():
    return small_ties() + small_rows() + small_lots() + small_seats()


def without_things():
    return [Ties(1, []), Ties(12, []), Rows([]), Lots([], []), Lots([3], []), Seats(0, []), Seats(12, [])]


def full_yards():
    """Yards of 24 things."""
    dice = random.Random(11)
    yards = [some_ties(dice, places, 24) for places in (1, 2, 8, 12, 12)]
    yards += [some_rows(dice, bits, 24) for bits in (1, 3, 12, 12)]
    yards += [Rows([4095] * 24), Rows([1 << at % 12 for at in range(24)]), Rows([0] * 24)]
    yards += [some_lots(dice, most, tops, 24) for most, tops in ((24, 1), (0, 3), (4, 8), (24, 8))]
    yards += [Lots([24], [0] * 24), Lots([23], [0] * 24)]
    yards += [some_seats(dice, seats, most, 24) for seats, most in ((0, 0), (1, 1), (8, 2), (12, 1), (12, 2), (12, 12))]
    return yards


def grounds():
    """A yard of each sort, of four things, an idle one and two alike ones among them, and one without things."""
    return [Ties(3, [(0, 1), (1, 0), (1, 2), (2, 2)]), Rows([5, 0, 5, 3]), Lots([1, 2, 0], [2, 0, 1, 0]),
            Seats(2, [[1], [0, 1], [1], []]), Rows([])]


def some_layers():
    """Mirrors, parts and yards side by side over each of the grounds, up to four within one another."""
    yards = []
    for ground, next_one in zip(grounds(), grounds()[1:] + grounds()[:1]):
        every = ground.things()
        parts = [Part(ground), Part(ground, away=every), Part(ground, granted=every[::-1]),
                 Part(ground, away=every[3:], granted=every[:1]), Part(ground, away=every[1:2]),
                 Part(ground, away=every[::2], granted=every[1::2])]
        mirrors = [Mirror(ground), Mirror(Mirror(ground)), Mirror(Part(ground, away=every[2:3], granted=every[:1]))]
        small = Part(next_one, away=next_one.things()[2:])
        besides = [Beside(ground, small), Beside(small, Mirror(ground)), Beside(ground, Rows([])),
                   Beside(Rows([]), ground)]
        deep = [Part(Mirror(Beside(Mirror(ground), small)), away=[0], granted=[1]),
                Mirror(Beside(Part(Mirror(ground), granted=every[:1], away=every[3:]), Lots([1], [0, 0, 0]))),
                Mirror(Mirror(Mirror(Mirror(ground))))]
        yards += parts + mirrors + besides + (deep if every else deep[1:])
    return yards


def full_layers():
    """Mirrors, parts and yards side by side of 24 things."""
    dice = random.Random(12)
    ties, rows, lots = some_ties(dice, 9, 24), some_rows(dice, 12, 24), some_lots(dice, 4, 8, 24)
    halves = [some_ties(dice, 8, 12), some_rows(dice, 5, 12), some_lots(dice, 3, 4, 12), some_seats(dice, 6, 3, 12)]
    yards = [Mirror(ties), Mirror(rows), Mirror(Mirror(Mirror(lots))), Part(ties), Part(Mirror(Part(Mirror(rows))))]
    yards += [Beside(one, other) for one, other in zip(halves, halves[1:] + halves[:1])]
    parts = [Part(ties, away=list(range(0, 24, 4)), granted=list(range(1, 24, 4))), Mirror(halves[1])]
    return yards + [Beside(*parts), Mirror(Beside(Mirror(parts[0]), halves[3])), Beside(ties, Rows([]))]


def some_heaps(many, count, seed):
    """Some heaps in any order, that of nothing and that of all among them."""
    dice = random.Random(seed)
    heaps = [dice.sample(range(many), dice.randrange(many + 1)) for at in range(count)]
    return heaps + [[], list(range(many)), list(range(many))[::-1]]
