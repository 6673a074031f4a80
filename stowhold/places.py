"""The free places of a load, and the rules that bar a box there."""

from stowhold.errors import NoPlace, Twice
from stowhold.lifts import after_lift, hatch_opens
from stowhold.loads import cell_of, top_of
from stowhold.rules import all_rules
from stowhold.ships import part_at, parts_of


def free_places(load):
    return [part + (top_of(load, part),) for part in parts_of(load.ship) if takes_one_more(load, part)]


def takes_one_more(load, part):
    if top_of(load, part) == part_at(load.ship, part)[0]:
        return False
    return part[2] == 1 or hatch_opens(load, part[0])


def bar_at(load, cell, box):
    if cell not in free_places(load):
        raise NoPlace("the cell is no free place")
    check_new(load, box)
    return first_bar(load, cell, box)


def bars_of(load, box):
    check_new(load, box)
    return [(cell, first_bar(load, cell, box)) for cell in free_places(load)]


def check_new(load, box):
    if cell_of(load, box[0]) is not None:
        raise Twice("the load has a box of that name")


def first_bar(load, cell, box):
    return first_break(after_lift(load, ("on", cell, box)), cell)


def first_break(behind, cell):
    # Asked of the load behind an on at the cell. No other cell is asked: nothing stands above the box, so it counts in
    # no other box's sums, and where it makes a box near it break apart, that one is its foe, so it breaks apart itself.
    words = [rule.word() for rule in all_rules() if rule.broken(behind, cell)]
    return words[0] if len(words) > 0 else None
