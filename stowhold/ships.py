"""Ships: bays of stacks, the two parts of a stack, and the parts' cells."""

from stowhold.errors import NoShip, OutOfShip

MOST_CELLS = 9


class Ship:
    def __init__(self, bays, foes, trim, heel):
        if len(bays) == 0:
            raise NoShip("a ship has at least one bay")
        if trim < 0 or heel < 0:
            raise NoShip("a bound of the moments is below nought")
        # Tuples throughout, so that no list of the asker's is kept.
        self.bays = tuple([kept_bay(bay) for bay in bays])
        self.foes = tuple([tuple(pair) for pair in foes])
        self.trim = trim
        self.heel = heel


def kept_bay(bay):
    stacks = bay[1]
    if len(stacks) == 0:
        raise NoShip("a bay has at least one stack")
    return (bay[0], tuple([kept_stack(stack) for stack in stacks]))


def kept_stack(stack):
    return (stack[0], kept_part(stack[1]), kept_part(stack[2]))


def kept_part(part):
    return checked_part(part[0], part[1], part[2], tuple(part[3]), part[4])


def checked_part(cells, strength, height, plugs, lash):
    if cells < 0 or cells > MOST_CELLS:
        raise NoShip("a number of cells is not from 0 to 9")
    if strength < 0 or height < 0 or lash < 0:
        raise NoShip("a strength, height or lash is below nought")
    if not rising_below(plugs, cells):
        raise NoShip("plugs are not strictly rising cells of their part")
    return (cells, strength, height, plugs, lash)


def rising_below(numbers, end):
    least = 0
    for number in numbers:
        if number < least or number >= end:
            return False
        least = number + 1
    return True


def parts_of(ship):
    parts = []
    for bay in range(len(ship.bays)):
        stacks = len(ship.bays[bay][1])
        # The hatches lie on the hold of the whole bay, so all of it is filled ahead of the deck.
        for deck in (0, 1):
            parts.extend([(bay, stack, deck) for stack in range(stacks)])
    return parts


def cells_of(ship):
    cells = []
    for part in parts_of(ship):
        cells.extend(cells_of_part(ship, part))
    return cells


def cells_of_part(ship, part):
    return [part + (tier,) for tier in range(part_at(ship, part)[0])]


def part_at(ship, part):
    return stack_at(ship, part)[1 + part[2]]


def arms_at(ship, part):
    side = stack_at(ship, part)[0]
    return (ship.bays[part[0]][0], side)


def stack_at(ship, part):
    if not has_part(ship, part):
        raise OutOfShip("the ship has no such part")
    return ship.bays[part[0]][1][part[1]]


def has_part(ship, part):
    # Python counts an index below nought from the end, so each number is asked for both bounds.
    if part[0] < 0 or part[0] >= len(ship.bays):
        return False
    if part[1] < 0 or part[1] >= len(ship.bays[part[0]][1]):
        return False
    return part[2] in (0, 1)


def has_cell(ship, cell):
    part = cell[:3]
    return has_part(ship, part) and cell[3] >= 0 and cell[3] < part_at(ship, part)[0]


def cell_order(cell):
    # Sorts cells as cells_of tells them, without walking the whole ship.
    return (cell[0], cell[2], cell[1], cell[3])
