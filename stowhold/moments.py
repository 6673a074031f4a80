"""The weight and the moments of a load, and the weights that leave it even."""

from stowhold.errors import NoBox
from stowhold.loads import box_at
from stowhold.ships import arms_at


def moments(load):
    told = (0, 0, 0)
    for cell, box in load.placed:
        told = with_weight(load.ship, told, cell, box[1])
    return told


def moments_with(load, cell, box):
    return with_weight(load.ship, moments(load), cell, box[1])


def moments_without(load, cell):
    box = box_at(load, cell)
    if box is None:
        raise NoBox("no box stands at the cell")
    return with_weight(load.ship, moments(load), cell, -box[1])


def with_weight(ship, told, cell, weight):
    arms = arms_at(ship, cell[:3])
    return (told[0] + weight, told[1] + weight * arms[0], told[2] + weight * arms[1])


def even(load):
    told = moments(load)
    return abs(told[1]) <= load.ship.trim and abs(told[2]) <= load.ship.heel


def makeweight(load, part):
    arms = arms_at(load.ship, part)
    told = moments(load)
    along = weights_within(told[1], arms[0], load.ship.trim)
    across = weights_within(told[2], arms[1], load.ship.heel)
    if along is None or across is None:
        return None
    return common_weights(along, across)


def weights_within(moment, arm, bound):
    if arm == 0:
        return (0, None) if abs(moment) <= bound else None
    if arm < 0:
        # The bound is the same on both sides of nought, so the mirrored ship has the same weights.
        return weights_within(-moment, -arm, bound)
    # Rounded up and down to whole numbers: -(-x // y) is x by y, rounded up.
    return (-((bound + moment) // arm), (bound - moment) // arm)


def common_weights(one, other):
    least = max(0, one[0], other[0])
    greatest = min([end for end in (one[1], other[1]) if end is not None], default=None)
    if greatest is not None and greatest < least:
        return None
    return (least, greatest)
