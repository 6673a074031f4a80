"""The rules that a load keeps, and its faults where it does not."""

from stowhold.loads import box_at
from stowhold.ships import part_at


class Rule:
    def word(self):
        return "none"

    def broken(self, load, cell):
        # Asked here for all rules, so that breaks is only ever asked of a cell where a box stands.
        return box_at(load, cell) is not None and self.breaks(load, cell)

    def breaks(self, load, cell):
        return False


class Strength(Rule):
    def word(self):
        return "strength"

    def breaks(self, load, cell):
        weights = [box[1] for box in boxes_up_to(load, cell)]
        return sum(weights) > part_at(load.ship, cell[:3])[1]


class Height(Rule):
    def word(self):
        return "height"

    def breaks(self, load, cell):
        heights = [box[2] for box in boxes_up_to(load, cell)]
        return sum(heights) > part_at(load.ship, cell[:3])[2]


class Cold(Rule):
    def word(self):
        return "cold"

    def breaks(self, load, cell):
        wants_plug = box_at(load, cell)[3] == 1
        return wants_plug and cell[3] not in part_at(load.ship, cell[:3])[3]


class Apart(Rule):
    def word(self):
        return "apart"

    def breaks(self, load, cell):
        own_sort = box_at(load, cell)[4]
        others = [box_at(load, other) for other in cells_near(cell)]
        return any([are_foes(load.ship, own_sort, box[4]) for box in others if box is not None])


class Lash(Rule):
    def word(self):
        return "lash"

    def breaks(self, load, cell):
        pulls = [box[1] * (tier + 1) for tier, box in enumerate(boxes_up_to(load, cell))]
        return cell[2] == 1 and sum(pulls) > part_at(load.ship, cell[:3])[4]


def all_rules():
    # In the order in which the faults of one cell are told.
    return [Strength(), Height(), Cold(), Apart(), Lash()]


def boxes_up_to(load, cell):
    return [box_at(load, cell[:3] + (tier,)) for tier in range(cell[3] + 1)]


def are_foes(ship, one_sort, other_sort):
    return (one_sort, other_sort) in ship.foes or (other_sort, one_sort) in ship.foes


def near(one, other):
    if one[0] != other[0] or one[2] != other[2]:
        return False
    return abs(one[1] - other[1]) <= 1 and abs(one[3] - other[3]) <= 1 and one != other


def cells_near(cell):
    # Far fewer than the boxes of a full load; those that the ship has not hold no box.
    around = []
    for stack in range(cell[1] - 1, cell[1] + 2):
        around.extend([(cell[0], stack, cell[2], tier) for tier in range(cell[3] - 1, cell[3] + 2)])
    return [other for other in around if near(cell, other)]


def faults_of(load):
    rules = all_rules()
    faults = []
    for cell, box in load.placed:
        faults.extend([(rule.word(), cell) for rule in rules if rule.broken(load, cell)])
    return faults


def sound(load):
    return len(faults_of(load)) == 0
