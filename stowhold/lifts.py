"""Lifts, rows of lifts, and the way back."""

from stowhold.errors import BadLift, BadRow
from stowhold.loads import Load, box_at, cell_of, stands_on_something
from stowhold.rules import sound
from stowhold.ships import has_cell


def after_lift(load, lift):
    why = why_not(load, lift)
    if why is not None:
        raise BadLift(why)
    cell = lift[1]
    if lift[0] == "off":
        return Load(load.ship, [pair for pair in load.placed if pair[0] != cell])
    return Load(load.ship, list(load.placed) + [(cell, lift[2])])


def why_not(load, lift):
    cell = lift[1]
    if not has_cell(load.ship, cell):
        return "cell"
    why = why_not_off(load, cell) if lift[0] == "off" else why_not_on(load, cell, lift[2][0])
    if why is None and cell[2] == 0 and not hatch_opens(load, cell[0]):
        return "hatch"
    return why


def why_not_off(load, cell):
    if box_at(load, cell) is None:
        return "empty"
    if box_at(load, cell[:3] + (cell[3] + 1,)) is not None:
        return "under"
    return None


def why_not_on(load, cell, name):
    if box_at(load, cell) is not None:
        return "full"
    if cell_of(load, name) is not None:
        return "name"
    if not stands_on_something(load, cell):
        return "under"
    return None


def hatch_opens(load, bay):
    return not any([cell[0] == bay and cell[2] == 1 for cell, box in load.placed])


def after_lifts(load, lifts):
    return loads_along(load, lifts)[-1]


def sound_row(load, lifts):
    # All lifts are done before the first load is asked, since a lift that can not be done goes ahead of any fault.
    return all([sound(behind) for behind in loads_along(load, lifts)[1:]])


def way_back(load, lifts):
    loads = loads_along(load, lifts)
    back = [undoing(loads[at], lift) for at, lift in enumerate(lifts)]
    return list(reversed(back))


def undoing(ahead, lift):
    cell = lift[1]
    if lift[0] == "off":
        return ("on", cell, box_at(ahead, cell))
    return ("off", cell)


def loads_along(load, lifts):
    loads = [load]
    for at, lift in enumerate(lifts):
        try:
            behind = after_lift(loads[-1], lift)
        except BadLift as refusal:
            raise BadRow(at, refusal.why) from refusal
        loads.append(behind)
    return loads
