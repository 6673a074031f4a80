"""Boxes loaded one by one, each at the first free place that nothing bars."""

from stowhold.errors import Twice
from stowhold.lifts import after_lift
from stowhold.places import bars_of


def loaded(load, boxes):
    check_names(boxes)
    filled = load
    left = []
    for box in boxes:
        bars = bars_of(filled, box)
        unbarred = [cell for cell, word in bars if word is None]
        if len(unbarred) == 0:
            left.append((box, bars))
        else:
            filled = after_lift(filled, ("on", unbarred[0], box))
    return (filled, left)


def loaded_by_ports(load, boxes):
    return loaded(load, sorted(boxes, key=by_port))


def by_port(box):
    return (-box[5], -box[1], box[0])


def check_names(boxes):
    # Names that are in the load are refused by bars_of; but a box that was left is in no load that could tell its name.
    if len(set([box[0] for box in boxes])) < len(boxes):
        raise Twice("a name comes twice")
