"""From text to answer: the lifts from one written load to another, and the load behind written lifts."""

from stowhold.fewest import lifts_to
from stowhold.lifts import after_lifts
from stowhold.notes import BOX_FORM, CELL_FORM, box_in, cell_in, read_load, read_rows, written, written_load


def lifts_text(ship, load_text, plan_text):
    load = read_load(ship, load_text)
    plan = read_load(ship, plan_text)
    return "\n".join([written_lift(lift) for lift in lifts_to(load, plan)])


def done_text(ship, load_text, rows_text):
    load = read_load(ship, load_text)
    return written_load(after_lifts(load, read_lifts(rows_text)))


def written_lift(lift):
    if lift[0] == "off":
        return written(("off",) + lift[1])
    return written(("on",) + lift[1] + lift[2])


def read_lifts(text):
    rows = read_rows(text, [(is_off,) + CELL_FORM, (is_on,) + CELL_FORM + BOX_FORM])
    return [lift_in(pieces) for pieces in rows]


def is_off(piece):
    return piece == "off"


def is_on(piece):
    return piece == "on"


def lift_in(pieces):
    cell = cell_in(pieces[1:5])
    if pieces[0] == "off":
        return ("off", cell)
    return ("on", cell, box_in(pieces[5:]))
