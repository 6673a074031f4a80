"""Loads: which box stands in which cell of a ship."""

from stowhold.errors import NoLoad
from stowhold.ships import cell_order, cells_of_part, has_cell


class Load:
    def __init__(self, ship, placed):
        self.ship = ship
        self.placed = tuple(sorted(placed, key=pair_order))
        # Both are asked far more often than a load is made.
        self.box_by_cell = dict(self.placed)
        self.cell_by_name = dict([(box[0], cell) for cell, box in self.placed])
        check_load(self)


def pair_order(pair):
    return cell_order(pair[0])


def check_load(load):
    if len(load.box_by_cell) < len(load.placed):
        raise NoLoad("a cell is told twice")
    if len(load.cell_by_name) < len(load.placed):
        raise NoLoad("a name is told twice")
    for cell in load.box_by_cell:
        if not has_cell(load.ship, cell):
            raise NoLoad("a cell is not the ship's")
        if not stands_on_something(load, cell):
            raise NoLoad("a box stands above an empty cell")


def stands_on_something(load, cell):
    return cell[3] == 0 or box_at(load, cell[:3] + (cell[3] - 1,)) is not None


def box_at(load, cell):
    return load.box_by_cell.get(cell)


def cell_of(load, name):
    return load.cell_by_name.get(name)


def top_of(load, part):
    cells = cells_of_part(load.ship, part)
    return len([cell for cell in cells if box_at(load, cell) is not None])
