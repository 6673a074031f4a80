"""A voyage from port to port: the load, the quay, the boxes ashore, and the plan."""

from stowhold.errors import NoBox, NoPlan, NotYet, Passed, Twice, Unsound
from stowhold.fewest import lifts_to
from stowhold.lifts import after_lift
from stowhold.loads import Load, box_at
from stowhold.moments import even
from stowhold.rules import sound


class Voyage:
    def __init__(self, ship):
        self.lies_at = 0
        self.held = Load(ship, [])
        self.plan = None
        self.standing = []
        self.gone = []
        self.brought = {}
        self.deeds = []

    def bring(self, box):
        if box[0] in self.brought:
            raise Twice("a box of that name was brought already")
        if box[5] <= self.lies_at:
            raise Passed("its port is not beyond the one where the ship lies")
        self.brought[box[0]] = True
        self.standing.append(box)
        self.deeds.append(("bring", box))

    def plan_for(self, placed):
        plan = Load(self.held.ship, placed)
        why = why_no_plan(plan, boxes_of(self.held), self.standing, self.lies_at)
        if why is not None:
            raise NoPlan(why)
        self.plan = plan
        self.deeds.append(("plan", plan.placed))

    def do_lift(self, lift):
        behind = after_lift(self.held, lift)
        if lift[0] == "on" and lift[2] not in self.standing:
            raise NoBox("no such box stands on the quay")
        if not sound(behind):
            raise Unsound("the load behind the lift is not sound")
        if lift[0] == "on":
            self.standing.remove(lift[2])
        else:
            self.put_ashore(box_at(self.held, lift[1]))
        self.held = behind
        self.deeds.append(lift)

    def put_ashore(self, box):
        # At its own port alone: a box that was carried past it is off the ship on the quay.
        if box[5] == self.lies_at:
            self.gone.append(box)
        else:
            self.standing.append(box)

    def lifts_left(self):
        self.check_plan()
        return lifts_to(self.held, self.plan)

    def sail(self):
        self.check_plan()
        if self.held.placed != self.plan.placed:
            raise NotYet("the load is not the plan")
        self.lies_at = self.lies_at + 1
        self.plan = None
        self.deeds.append(("sail",))

    def check_plan(self):
        if self.plan is None:
            raise NoPlan("none")

    def port(self):
        return self.lies_at

    def load_now(self):
        return self.held

    def quay(self):
        return list(self.standing)

    def ashore(self):
        return list(self.gone)

    def log(self):
        return list(self.deeds)


def boxes_of(load):
    return [box for cell, box in load.placed]


def why_no_plan(plan, carried, standing, port):
    planned = boxes_of(plan)
    known = carried + standing
    if any([box not in known for box in planned]):
        return "strange"
    if any([box[5] <= port for box in planned]):
        return "here"
    if any([box[5] > port and box not in planned for box in carried]):
        return "left"
    if not sound(plan):
        return "rule"
    return None if even(plan) else "even"
