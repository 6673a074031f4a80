"""What must come off on the way to a plan, and the fewest lifts that lead there."""

from stowhold.loads import box_at, cell_of


def must_off(load, plan):
    reasons = reasons_off(load, plan)
    return [(box_at(load, cell)[0],) + reasons[cell] for cell in reasons]


def lifts_to(load, plan):
    off = reasons_off(load, plan)
    # Backward by cells each part is cleared from its top, and the deck of a bay ahead of its hold.
    offs = [("off", cell) for cell in reversed(list(off))]
    # Forward by cells each part is filled from its lowest cell, and the hold of a bay ahead of its deck.
    ons = [("on", cell, box) for cell, box in plan.placed if cell in off or box_at(load, cell) is None]
    return offs + ons


def idle_lifts(load, plan):
    return 2 * len([name for name, why, other in must_off(load, plan) if why in ("above", "hatch")])


def reasons_off(load, plan):
    # Pairs (why, other) by the cells of the boxes that must come off, in the order of cells_of: in that order each
    # box comes behind all that it can be due to, those beneath it and the hold of its bay.
    reasons = {}
    for cell, box in load.placed:
        reason = reason_off(load, plan, cell, reasons)
        if reason is not None:
            reasons[cell] = reason
    return reasons


def reason_off(load, plan, cell, reasons):
    if not stays(load, plan, cell):
        planned = cell_of(plan, box_at(load, cell)[0])
        return ("goes" if planned is None else "moves", "")
    beneath = cell[:3] + (cell[3] - 1,)
    if beneath in reasons:
        return ("above", box_at(load, beneath)[0])
    if cell[2] == 1:
        return reason_by_hatch(load, plan, cell[0], reasons)
    return None


def stays(load, plan, cell):
    return box_at(load, cell) == box_at(plan, cell)


def reason_by_hatch(load, plan, bay, reasons):
    coming_off = [box_at(load, cell)[0] for cell in reasons if in_hold(cell, bay)]
    going_on = [box[0] for cell, box in plan.placed if in_hold(cell, bay) and not stays(load, plan, cell)]
    names = coming_off + going_on
    return ("hatch", names[0]) if len(names) > 0 else None


def in_hold(cell, bay):
    return cell[0] == bay and cell[2] == 0
