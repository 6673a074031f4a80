"""Ships, parts, boxes and questions that the tests share."""

from stowhold.loads import Load
from stowhold.rules import Apart, Cold, Height, Lash, Strength
from stowhold.ships import Ship, cells_of

GREAT = 10 ** 60 - 1


def part(cells=3, strength=50, height=40, plugs=(), lash=70):
    return (cells, strength, height, plugs, lash)


def box(name, weight=5, height=3, cold=0, sort="tea", port=1):
    return (name, weight, height, cold, sort, port)


def named(number):
    return "box" + "abcdefghijklmnopqrstuvwxyz"[number]


def ship_args(parts, foes=(), trim=100, heel=100):
    """The arguments of a ship of bays of stacks of pairs (hold, deck), with lists wherever lists may stand."""
    bays = []
    for arm, stacks in enumerate(parts):
        bays.append((arm - 1, [(side - 1, hold, deck) for side, (hold, deck) in enumerate(stacks)]))
    return (bays, list(foes), trim, heel)


def uneven_ship_args():
    """Three bays of one, three and two stacks; no two parts alike, three of them without cells."""
    return ship_args([
        [(part(1, 10), part(2, 11))],
        [(part(2, 12), part(0, 13)), (part(0, 14), part(1, 15)), (part(3, 16), part(1, 17))],
        [(part(0, 18), part(2, 19)), (part(1, 20), part(1, 21))],
    ])


def plain_ship():
    """Two bays of three stacks, three cells in each part."""
    return Ship(*ship_args([[(part(), part())] * 3] * 2))


def great_ship(foes=()):
    """The greatest ship: eight bays of eight stacks of parts of nine cells, and numbers of sixty figures."""
    great = part(9, GREAT, GREAT, tuple(range(9)), GREAT)
    return Ship(*ship_args([[(great, great)] * 8] * 8, foes, GREAT, GREAT))


def great_box(number, weight=GREAT, height=GREAT):
    """One of a hundred boxes with the longest names, sorts and numbers."""
    return box("a" * 10 + named(number // 26)[-1] + named(number % 26)[-1], weight, height, 1, "s" * 12, GREAT)


def chance_ship(chance, stacks, foes):
    """Two bays of so many stacks; parts of nought to three cells that bear little."""
    bays = [[(chance_part(chance), chance_part(chance)) for stack in range(stacks)] for bay in range(2)]
    return Ship(*ship_args(bays, foes))


def chance_part(chance):
    cells = chance.randrange(4)
    plugs = [tier for tier in range(cells) if chance.random() < 0.5]
    return part(cells, chance.randrange(14), chance.randrange(14), plugs, chance.randrange(18))


def bar_by_words(load, cell, one):
    """What bar_at is to tell, word by word as [23] says it: each rule at each cell, with the box and without it."""
    behind = Load(load.ship, load.placed + ((cell, one),))
    for rule in (Strength(), Height(), Cold(), Apart(), Lash()):
        for where in cells_of(load.ship):
            if rule.broken(behind, where) and not rule.broken(load, where):
                return rule.word()
    return None


UNEVEN_PARTS = [
    (0, 0, 0),
    (0, 0, 1),
    (1, 0, 0), (1, 1, 0), (1, 2, 0),
    (1, 0, 1), (1, 1, 1), (1, 2, 1),
    (2, 0, 0), (2, 1, 0),
    (2, 0, 1), (2, 1, 1),
]

UNEVEN_CELLS = [
    (0, 0, 0, 0),
    (0, 0, 1, 0), (0, 0, 1, 1),
    (1, 0, 0, 0), (1, 0, 0, 1), (1, 2, 0, 0), (1, 2, 0, 1), (1, 2, 0, 2),
    (1, 1, 1, 0), (1, 2, 1, 0),
    (2, 1, 0, 0),
    (2, 0, 1, 0), (2, 0, 1, 1), (2, 1, 1, 0),
]

# None of them is a cell of the uneven ship.
NOT_CELLS = [
    (3, 0, 0, 0), (-1, 0, 1, 0), (-3, 0, 0, 0), (GREAT, 0, 0, 0), (-GREAT, 0, 0, 0),
    (0, 1, 0, 0), (1, 3, 0, 0), (2, 2, 1, 0), (0, -1, 0, 0), (1, -1, 0, 0), (1, GREAT, 0, 0), (1, -GREAT, 0, 0),
    (0, 0, 2, 0), (0, 0, -1, 0), (0, 0, -2, 0), (0, 0, GREAT, 0), (0, 0, -GREAT, 0),
    (0, 0, 0, 1), (0, 0, 0, -1), (1, 0, 1, 0), (1, 1, 0, 0), (2, 0, 0, 0), (0, 0, 0, GREAT), (0, 0, 0, -GREAT),
]
