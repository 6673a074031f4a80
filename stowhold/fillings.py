"""Boxes in the way, the filling with the fewest of them, and a paper that shows that none has fewer."""

from stowhold.errors import NoFilling
from stowhold.lifts import after_lift
from stowhold.loading import check_names
from stowhold.loads import top_of
from stowhold.places import check_new, first_break, takes_one_more
from stowhold.ships import parts_of


def in_the_way(load):
    names = []
    earliest = {}
    # In the order of cells_of whatever stands beneath a box comes ahead of it.
    for cell, box in load.placed:
        port = box[5]
        if any([earliest.get(place, port) < port for place in places_beneath(cell)]):
            names.append(box[0])
        for place in places_of(cell):
            earliest[place] = min(port, earliest.get(place, port))
    return names


def places_beneath(cell):
    # A bay by itself stands for its hold, all stacks of it.
    return [cell[:3]] if cell[2] == 0 else [cell[:3], cell[:1]]


def places_of(cell):
    return [cell[:3], cell[:1]] if cell[2] == 0 else [cell[:3]]


def best_filling(load, boxes):
    check_names(boxes)
    for box in boxes:
        check_new(load, box)
    search = Search(load.ship)
    told = search.paper_from(load, boxes, 0)
    if search.best is None:
        raise NoFilling(told)
    return (search.best, told)


class Search:
    def __init__(self, ship):
        self.parts = parts_of(ship)
        self.best = None
        self.fewest = None

    def paper_from(self, load, boxes, start):
        # One more box never takes another out of the way: the load so far has no more of them than what comes of it.
        count = len(in_the_way(load))
        steps = []
        for at in range(start, len(self.parts)):
            end = self.end_at(load, boxes, count)
            if end is not None:
                return chained(steps, end)
            steps.append(self.puts_at(load, boxes, at))
        return chained(steps, ("lost",))

    def end_at(self, load, boxes, count):
        # The best one so far has no fewer than the best one of all, so a cut that holds now holds in the end too.
        if self.best is not None and count >= self.fewest:
            return ("cut", count)
        if len(boxes) > 0:
            return None
        self.best = load
        self.fewest = count
        return ("done",)

    def puts_at(self, load, boxes, at):
        part = self.parts[at]
        if not takes_one_more(load, part):
            return [(box[0], "place") for box in boxes]
        cell = part + (top_of(load, part),)
        return [(box[0], self.put_at(load, boxes, at, cell, box)) for box in boxes]

    def put_at(self, load, boxes, at, cell, box):
        behind = after_lift(load, ("on", cell, box))
        word = first_break(behind, cell)
        if word is not None:
            return word
        return self.paper_from(behind, [other for other in boxes if other != box], at)


def chained(steps, end):
    # Not by one call within another for each part: a ship may have more parts than calls should lie so deep.
    told = end
    for puts in reversed(steps):
        told = ("part", puts, told)
    return told
