"""[32] to [36]: the voyage from port to port."""

import random
import unittest

from samples import GREAT, box, great_box, great_ship, part, ship_args
from stowhold.errors import BadLift, NoBox, NoLoad, NoPlan, NotYet, Passed, StowError, Twice, Unsound
from stowhold.fewest import lifts_to
from stowhold.lifts import after_lift, after_lifts
from stowhold.loads import Load
from stowhold.moments import even
from stowhold.rules import sound
from stowhold.ships import Ship, cells_of
from stowhold.voyage import Voyage

LOW, HIGH, SIDE, DECK = (0, 0, 0, 0), (0, 0, 0, 1), (0, 1, 0, 0), (0, 0, 1, 0)
WINE = box("wine", 5, 3, 0, "tea", 3)


def small_ship(trim=100, heel=100):
    """One bay of two stacks: two cells in the hold, one of them with a plug, and two on deck."""
    stack = (part(2, 50, 40, [0]), part(2, 50, 40, [0]))
    return Ship(*ship_args([[stack, stack]], [("oil", "fire")], trim, heel))


def lift_all(voyage):
    for lift in voyage.lifts_left():
        voyage.do_lift(lift)


def carry_out(voyage, placed):
    voyage.plan_for(placed)
    lift_all(voyage)


def sail_with(voyage, placed):
    carry_out(voyage, placed)
    voyage.sail()


def lying_at(port, *boxes, ship=None):
    """A voyage that has come so far with an empty load, and boxes on its quay."""
    voyage = Voyage(ship or small_ship())
    for one in boxes:
        voyage.bring(one)
    for at in range(port):
        sail_with(voyage, [])
    return voyage


def carrying(*placed, ship=None):
    """A voyage at port 0 with a load, and no plan behind it but that of the load."""
    voyage = lying_at(0, *[one for cell, one in placed], ship=ship)
    carry_out(voyage, list(placed))
    return voyage


def differing(one):
    """Boxes that differ from this one in one of six things each."""
    others = ("other", one[1] + 1, one[2] + 1, 1 - one[3], "other", one[5] + 1)
    return [one[:at] + (others[at],) + one[at + 1:] for at in range(6)]


def left_of(voyage):
    try:
        return voyage.lifts_left()
    except NoPlan as refusal:
        return refusal.why


def seen(voyage):
    """All that a voyage tells."""
    return (voyage.port(), voyage.load_now().placed, voyage.quay(), voyage.ashore(), voyage.log(), left_of(voyage))


class Voyages(unittest.TestCase):
    """What tests of voyages ask."""

    def refuse(self, voyage, refusal, deed, *args):
        """A refused deed changes nothing and is not in the log; tells the refusal."""
        before = seen(voyage)
        with self.assertRaises(refusal) as caught:
            deed(*args)
        self.assertIs(type(caught.exception), refusal)
        self.assertEqual(seen(voyage), before)
        return caught.exception

    def refuse_plan(self, voyage, why, placed):
        self.assertEqual(self.refuse(voyage, NoPlan, voyage.plan_for, placed).why, why)

    def check_tells(self, voyage, port, placed, quay, ashore):
        """What a voyage tells but for its log; the pairs are told in the order of cells."""
        told = (voyage.port(), voyage.load_now().placed, voyage.quay(), voyage.ashore())
        self.assertEqual(told, (port, tuple(placed), quay, ashore))


class Beginning(Voyages):
    def test_kinds(self):
        ship = small_ship()
        voyage = Voyage(ship)
        self.check_tells(voyage, 0, [], [], [])
        self.assertEqual((voyage.log(), left_of(voyage)), ([], "none"))
        self.assertIsInstance(voyage.load_now(), Load)
        self.assertIs(voyage.load_now().ship, ship)
        for told in (voyage.quay(), voyage.ashore(), voyage.log()):
            self.assertIsInstance(told, list)
        self.assertIs(type(voyage.port()), int)

    def test_deeds_tell_nothing(self):
        voyage = Voyage(small_ship())
        self.assertIsNone(voyage.bring(WINE))
        self.assertIsNone(voyage.plan_for([(LOW, WINE)]))
        self.assertIsNone(voyage.do_lift(("on", LOW, WINE)))
        self.assertIsNone(voyage.sail())
        self.assertIsNone(voyage.do_lift(("off", LOW)))

    def test_two_voyages_have_nothing_in_common(self):
        ship = small_ship()
        one, other = Voyage(ship), Voyage(ship)
        one.bring(WINE)
        carry_out(one, [(LOW, WINE)])
        self.check_tells(other, 0, [], [], [])
        self.assertEqual((other.log(), left_of(other)), ([], "none"))
        other.bring(WINE)


class Bringing(Voyages):
    def test_in_order(self):
        voyage = Voyage(small_ship())
        boxes = [box("c"), box("a"), box("b", 99, 99, 1, "oil", GREAT)]
        for one in boxes:
            voyage.bring(one)
        self.check_tells(voyage, 0, [], boxes, [])
        self.assertEqual(voyage.log(), [("bring", one) for one in boxes])

    def test_a_name_on_the_quay_in_the_load_or_ashore(self):
        voyage = lying_at(0, WINE)
        self.refuse(voyage, Twice, voyage.bring, WINE)
        for one in differing(WINE)[1:]:
            self.refuse(voyage, Twice, voyage.bring, one)
        carry_out(voyage, [(LOW, WINE)])
        self.refuse(voyage, Twice, voyage.bring, WINE)
        for at in range(3):
            sail_with(voyage, [(LOW, WINE)])
        voyage.do_lift(("off", LOW))
        self.assertEqual(voyage.ashore(), [WINE])
        self.refuse(voyage, Twice, voyage.bring, box("wine", port=9))

    def test_a_name_that_was_put_back_on_the_quay(self):
        voyage = carrying((LOW, WINE))
        voyage.do_lift(("off", LOW))
        self.refuse(voyage, Twice, voyage.bring, WINE)

    def test_passed_at_and_behind_the_ships_port(self):
        for port in (0, 2):
            voyage = lying_at(port)
            for behind in range(port + 1):
                self.refuse(voyage, Passed, voyage.bring, box("a", port=behind))
            voyage.bring(box("a", port=port + 1))
            self.assertEqual(voyage.quay(), [box("a", port=port + 1)])

    def test_twice_ahead_of_passed(self):
        voyage = lying_at(2, box("a", port=1))
        for port in range(3):
            self.refuse(voyage, Twice, voyage.bring, box("a", port=port))

    def test_a_refused_box_was_not_brought(self):
        voyage = lying_at(0)
        self.refuse(voyage, Passed, voyage.bring, box("a", port=0))
        voyage.bring(box("a", port=1))
        self.assertEqual(voyage.log(), [("bring", box("a", port=1))])

    def test_with_a_plan(self):
        voyage = carrying((LOW, WINE))
        voyage.bring(box("a"))
        self.assertEqual((voyage.quay(), voyage.lifts_left()), ([box("a")], []))
        voyage.sail()
        self.assertEqual(voyage.quay(), [box("a")])


class Planning(Voyages):
    def test_a_plan_of_boxes_on_the_quay_and_of_the_load(self):
        voyage = carrying((LOW, box("a")))
        voyage.bring(box("b"))
        placed = [(DECK, box("b")), (LOW, box("a"))]
        voyage.plan_for(placed)
        self.assertEqual(voyage.log()[-1], ("plan", ((LOW, box("a")), (DECK, box("b")))))
        self.assertEqual(voyage.lifts_left(), [("on", DECK, box("b"))])
        self.check_tells(voyage, 0, [(LOW, box("a"))], [box("b")], [])

    def test_an_empty_plan(self):
        voyage = lying_at(0, box("a"))
        voyage.plan_for([])
        self.assertEqual((voyage.lifts_left(), voyage.log()[-1]), ([], ("plan", ())))

    def test_no_load(self):
        voyage = lying_at(0, box("a"), box("b"))
        for placed in ([((1, 0, 0, 0), box("a"))], [(LOW, box("a")), (LOW, box("b"))], [(HIGH, box("a"))],
                       [(LOW, box("a")), (SIDE, box("a"))]):
            self.refuse(voyage, NoLoad, voyage.plan_for, placed)

    def test_no_load_ahead_of_no_plan(self):
        voyage = lying_at(1, box("a", port=1), ship=small_ship(0, 0))
        for placed in ([(HIGH, box("strange"))], [(HIGH, box("a", port=1))], [(HIGH, box("a", 99, port=2))]):
            self.refuse(voyage, NoLoad, voyage.plan_for, placed)
        voyage = carrying((LOW, box("a")))
        voyage.bring(box("b"))
        self.refuse(voyage, NoLoad, voyage.plan_for, [(HIGH, box("b"))])

    def test_strange(self):
        voyage = lying_at(0, WINE)
        self.refuse_plan(voyage, "strange", [(LOW, box("a"))])
        self.refuse_plan(voyage, "strange", [(LOW, WINE), (HIGH, box("a"))])
        self.refuse_plan(Voyage(small_ship()), "strange", [(LOW, WINE)])

    def test_a_box_that_differs_in_one_of_six_things_is_strange(self):
        on_quay, in_load = lying_at(0, WINE), carrying((LOW, WINE))
        for one in differing(WINE):
            self.refuse_plan(on_quay, "strange", [(LOW, one)])
            self.refuse_plan(in_load, "strange", [(LOW, one)])
            self.refuse_plan(in_load, "strange", [(SIDE, one)])

    def test_a_box_that_is_ashore_is_strange(self):
        voyage = carrying((LOW, box("a", port=1)))
        voyage.sail()
        voyage.do_lift(("off", LOW))
        self.assertEqual(voyage.ashore(), [box("a", port=1)])
        self.refuse_plan(voyage, "strange", [(LOW, box("a", port=1))])

    def test_here(self):
        voyage = carrying((LOW, box("a", port=1)))
        voyage.sail()
        self.refuse_plan(voyage, "here", [(LOW, box("a", port=1))])
        for port in (1, 2, 3):
            voyage = lying_at(3, box("a", port=port), box("b", port=4))
            self.refuse_plan(voyage, "here", [(LOW, box("a", port=port))])
            self.refuse_plan(voyage, "here", [(LOW, box("b", port=4)), (HIGH, box("a", port=port))])
            voyage.plan_for([(LOW, box("b", port=4))])

    def test_left(self):
        voyage = carrying((LOW, box("a", port=2)), (SIDE, box("b", port=1)))
        self.refuse_plan(voyage, "left", [])
        self.refuse_plan(voyage, "left", [(LOW, box("a", port=2))])
        voyage.sail()
        self.refuse_plan(voyage, "left", [])
        # A box that goes ashore here is left out, and one may stand elsewhere.
        voyage.plan_for([(SIDE, box("a", port=2))])

    def test_boxes_on_the_quay_may_be_left(self):
        voyage = lying_at(0, box("a"), box("b"))
        voyage.plan_for([(LOW, box("b"))])
        self.assertEqual(voyage.lifts_left(), [("on", LOW, box("b"))])

    def test_rule(self):
        for one, other in ((box("a", 51), None), (box("a", 5, 41), None), (box("a", 50), box("b", 1)),
                           (box("a"), box("b", cold=1)), (box("a", sort="oil"), box("b", sort="fire"))):
            placed = [(cell, each) for cell, each in ((LOW, one), (HIGH, other)) if each is not None]
            voyage = lying_at(0, *[each for cell, each in placed])
            self.refuse_plan(voyage, "rule", placed)
        voyage = lying_at(0, box("a", 50), box("b", 11))
        voyage.plan_for([(DECK, box("a", 50))])
        self.refuse_plan(voyage, "rule", [(DECK, box("a", 50)), ((0, 0, 1, 1), box("b", 11))])

    def test_even(self):
        # The one bay lies at -1 along, its stacks at -1 and 0 across.
        voyage = lying_at(0, box("a", 6), ship=small_ship(5, 100))
        self.refuse_plan(voyage, "even", [(SIDE, box("a", 6))])
        voyage = lying_at(0, box("a", 6), ship=small_ship(100, 5))
        self.refuse_plan(voyage, "even", [(LOW, box("a", 6))])
        voyage.plan_for([(SIDE, box("a", 6))])
        voyage = lying_at(0, box("a", 6), ship=small_ship(6, 6))
        voyage.plan_for([(LOW, box("a", 6))])

    def test_a_plan_takes_the_place_of_the_one_ahead(self):
        voyage = lying_at(0, box("a"), box("b"))
        voyage.plan_for([(LOW, box("a"))])
        voyage.plan_for([(SIDE, box("b"))])
        self.assertEqual(voyage.lifts_left(), [("on", SIDE, box("b"))])
        voyage.plan_for([])
        self.assertEqual(voyage.lifts_left(), [])
        self.assertEqual([deed[0] for deed in voyage.log()], ["bring", "bring", "plan", "plan", "plan"])
        voyage.sail()

    def test_a_refused_plan_leaves_the_one_ahead(self):
        voyage = lying_at(0, box("a"), box("b", 99))
        voyage.plan_for([(LOW, box("a"))])
        self.refuse_plan(voyage, "strange", [(LOW, box("c"))])
        self.refuse_plan(voyage, "rule", [(LOW, box("b", 99))])
        self.refuse(voyage, NoLoad, voyage.plan_for, [(HIGH, box("a"))])
        self.assertEqual(voyage.lifts_left(), [("on", LOW, box("a"))])
        lift_all(voyage)
        voyage.sail()


class OrderOfWords(Voyages):
    """Each two words that are due together, and no third one: the earlier is told."""

    def voyage_at_one(self, heel=100):
        """At port 1: a box for 2 and one for 1 in the load, on the quay one for 1, one too heavy and a light one."""
        voyage = lying_at(0, box("keep", port=2), box("here", port=1), box("late", 60, port=1), box("huge", 60, port=2),
                          box("new", 9, port=2), ship=small_ship(1000, heel))
        carry_out(voyage, [(SIDE, box("keep", port=2)), ((0, 1, 0, 1), box("here", port=1))])
        voyage.sail()
        return voyage

    def setUp(self):
        self.kept = (SIDE, box("keep", port=2))

    def test_strange_ahead_of_each(self):
        voyage = self.voyage_at_one(8)
        strange = box("strange", port=2)
        self.refuse_plan(voyage, "strange", [self.kept, (LOW, box("strange", port=1))])
        self.refuse_plan(voyage, "strange", [self.kept, ((0, 1, 0, 1), box("here", port=1)), (LOW, strange)])
        self.refuse_plan(voyage, "strange", [(LOW, strange)])
        self.refuse_plan(voyage, "strange", [self.kept, ((0, 1, 0, 1), box("strange", 60, port=2))])
        self.refuse_plan(voyage, "strange", [self.kept, (LOW, box("strange", 9, port=2))])

    def test_here_ahead_of_left_rule_and_even(self):
        voyage = self.voyage_at_one(4)
        here = box("here", port=1)
        self.refuse_plan(voyage, "here", [(SIDE, here)])
        self.refuse_plan(voyage, "here", [self.kept, ((0, 1, 0, 1), box("late", 60, port=1))])
        self.refuse_plan(voyage, "here", [self.kept, (LOW, here)])

    def test_left_ahead_of_rule_and_even(self):
        voyage = self.voyage_at_one(8)
        self.refuse_plan(voyage, "left", [(SIDE, box("huge", 60, port=2))])
        self.refuse_plan(voyage, "left", [(LOW, box("new", 9, port=2))])

    def test_rule_ahead_of_even(self):
        voyage = self.voyage_at_one(8)
        self.refuse_plan(voyage, "rule", [self.kept, (LOW, box("huge", 60, port=2))])

    def test_each_alone(self):
        voyage = self.voyage_at_one(8)
        self.refuse_plan(voyage, "strange", [self.kept, (LOW, box("strange", 1, port=2))])
        self.refuse_plan(voyage, "here", [self.kept, (LOW, box("here", port=1))])
        self.refuse_plan(voyage, "left", [(SIDE, box("new", 9, port=2))])
        self.refuse_plan(voyage, "rule", [self.kept, ((0, 1, 0, 1), box("huge", 60, port=2))])
        self.refuse_plan(voyage, "even", [self.kept, (LOW, box("new", 9, port=2))])
        voyage.plan_for([self.kept, ((0, 1, 0, 1), box("new", 9, port=2))])


class Lifting(Voyages):
    def refuse_lift(self, voyage, why, lift):
        self.assertEqual(self.refuse(voyage, BadLift, voyage.do_lift, lift).why, why)

    def test_the_words_of_bad_lift(self):
        voyage = carrying((LOW, box("a")), (HIGH, box("b")), (SIDE, box("c")))
        voyage.bring(box("d"))
        for cell in ((1, 0, 0, 0), (0, 2, 0, 0), (0, 0, 2, 0), (0, 0, 0, 2), (-1, 0, 0, 0)):
            self.refuse_lift(voyage, "cell", ("off", cell))
            self.refuse_lift(voyage, "cell", ("on", cell, box("d")))
        self.refuse_lift(voyage, "empty", ("off", DECK))
        self.refuse_lift(voyage, "full", ("on", HIGH, box("d")))
        self.refuse_lift(voyage, "name", ("on", DECK, box("a")))
        self.refuse_lift(voyage, "under", ("off", LOW))
        self.refuse_lift(voyage, "under", ("on", (0, 0, 1, 1), box("d")))
        voyage.do_lift(("on", DECK, box("d")))
        self.refuse_lift(voyage, "hatch", ("off", HIGH))
        voyage.bring(box("e"))
        self.refuse_lift(voyage, "hatch", ("on", (0, 1, 0, 1), box("e")))

    def test_bad_lift_ahead_of_no_box_and_unsound(self):
        voyage = carrying((LOW, box("a")))
        voyage.bring(box("b", 99))
        for one in (box("strange"), box("b", 99), box("b")):
            self.refuse_lift(voyage, "cell", ("on", (1, 0, 0, 0), one))
            self.refuse_lift(voyage, "full", ("on", LOW, one))
            self.refuse_lift(voyage, "under", ("on", (0, 1, 0, 1), one))
        self.refuse_lift(voyage, "name", ("on", HIGH, box("a")))
        self.refuse_lift(voyage, "name", ("on", HIGH, box("a", 99)))
        voyage.bring(box("d"))
        voyage.do_lift(("on", DECK, box("d")))
        for one in (box("strange"), box("b", 99)):
            self.refuse_lift(voyage, "hatch", ("on", SIDE, one))

    def test_no_box(self):
        voyage = lying_at(0, WINE)
        for one in differing(WINE):
            self.refuse(voyage, NoBox, voyage.do_lift, ("on", LOW, one))
        voyage.do_lift(("on", LOW, WINE))

    def test_a_box_that_is_ashore_is_not_on_the_quay(self):
        voyage = carrying((LOW, box("a", port=1)))
        voyage.sail()
        voyage.do_lift(("off", LOW))
        self.refuse(voyage, NoBox, voyage.do_lift, ("on", LOW, box("a", port=1)))

    def test_unsound(self):
        boxes = [box("a", 51), box("b", 5, 41), box("c", cold=1), box("d", sort="oil"), box("e", sort="fire"),
                 box("f", 40)]
        voyage = lying_at(0, *boxes)
        voyage.do_lift(("on", LOW, boxes[3]))
        for one in boxes[:3] + boxes[4:5]:
            self.refuse(voyage, Unsound, voyage.do_lift, ("on", HIGH, one))
        voyage.do_lift(("on", DECK, boxes[5]))
        # Twice its weight and the forty beneath it pull more than the deck's seventy.
        voyage.bring(box("g", 16))
        self.refuse(voyage, Unsound, voyage.do_lift, ("on", (0, 0, 1, 1), box("g", 16)))
        self.assertEqual(voyage.load_now().placed, ((LOW, boxes[3]), (DECK, boxes[5])))

    def test_no_box_ahead_of_unsound(self):
        voyage = lying_at(0, box("a"))
        for one in (box("a", 99), box("b", 99), box("a", 5, 99)):
            self.refuse(voyage, NoBox, voyage.do_lift, ("on", LOW, one))
        voyage = carrying((LOW, box("c")))
        voyage.bring(box("a"))
        self.refuse(voyage, NoBox, voyage.do_lift, ("on", HIGH, box("a", cold=1)))

    def test_evenness_is_not_asked(self):
        voyage = lying_at(0, box("a", 40), ship=small_ship(0, 0))
        voyage.do_lift(("on", LOW, box("a", 40)))
        self.check_tells(voyage, 0, [(LOW, box("a", 40))], [], [])

    def test_no_plan_is_asked(self):
        voyage = lying_at(0, box("a"))
        voyage.do_lift(("on", LOW, box("a")))
        voyage.do_lift(("off", LOW))
        self.assertEqual(voyage.log(), [("bring", box("a")), ("on", LOW, box("a")), ("off", LOW)])

    def test_on_takes_the_box_from_the_quay(self):
        voyage = lying_at(0, box("a"), box("b"), box("c"))
        voyage.do_lift(("on", LOW, box("b")))
        self.check_tells(voyage, 0, [(LOW, box("b"))], [box("a"), box("c")], [])
        self.assertEqual(voyage.log()[-1], ("on", LOW, box("b")))

    def test_off_at_its_own_port_is_ashore_for_good(self):
        voyage = carrying((LOW, box("b", port=1)), (SIDE, box("a", port=1)), (DECK, box("c", port=2)))
        voyage.sail()
        voyage.do_lift(("off", DECK))
        voyage.do_lift(("off", SIDE))
        voyage.do_lift(("off", LOW))
        self.check_tells(voyage, 1, [], [box("c", port=2)], [box("a", port=1), box("b", port=1)])
        self.assertEqual(voyage.log()[-3:], [("off", DECK), ("off", SIDE), ("off", LOW)])

    def test_off_elsewhere_stands_at_the_end_of_the_quay(self):
        voyage = lying_at(0, box("a"), box("b"), box("c"))
        voyage.do_lift(("on", LOW, box("a")))
        voyage.do_lift(("on", HIGH, box("b")))
        voyage.do_lift(("off", HIGH))
        self.assertEqual(voyage.quay(), [box("c"), box("b")])
        voyage.do_lift(("off", LOW))
        self.check_tells(voyage, 0, [], [box("c"), box("b"), box("a")], [])

    def test_off_behind_its_own_port_stands_on_the_quay(self):
        voyage = lying_at(2, box("a", port=1))
        voyage.do_lift(("on", LOW, box("a", port=1)))
        self.check_tells(voyage, 2, [(LOW, box("a", port=1))], [], [])
        voyage.do_lift(("off", LOW))
        self.check_tells(voyage, 2, [], [box("a", port=1)], [])

    def test_a_box_that_came_to_its_port_by_land_may_be_put_on(self):
        voyage = lying_at(1, box("a", port=1))
        self.check_tells(voyage, 1, [], [box("a", port=1)], [])
        voyage.do_lift(("on", LOW, box("a", port=1)))
        voyage.do_lift(("off", LOW))
        self.check_tells(voyage, 1, [], [], [box("a", port=1)])


class LiftsLeft(Voyages):
    def test_no_plan(self):
        voyage = lying_at(0, box("a"))
        self.assertEqual(self.refuse(voyage, NoPlan, voyage.lifts_left).why, "none")
        voyage.do_lift(("on", LOW, box("a")))
        self.assertEqual(self.refuse(voyage, NoPlan, voyage.lifts_left).why, "none")

    def test_kinds(self):
        voyage = carrying((LOW, box("a")))
        self.assertIsInstance(voyage.lifts_left(), list)
        self.assertEqual(voyage.lifts_left(), [])

    def test_before_and_after_some_lifts_of_it_are_done(self):
        boxes = [box("a"), box("b"), box("c"), box("d")]
        voyage = carrying((LOW, boxes[0]), (HIGH, boxes[1]), (DECK, boxes[2]))
        voyage.bring(boxes[3])
        placed = [(LOW, boxes[3]), (HIGH, boxes[1]), (SIDE, boxes[0]), (DECK, boxes[2])]
        voyage.plan_for(placed)
        plan = Load(voyage.load_now().ship, placed)
        for left in range(7, -1, -1):
            row = voyage.lifts_left()
            self.assertEqual(len(row), left)
            self.assertEqual(after_lifts(voyage.load_now(), row).placed, plan.placed)
            if left > 0:
                self.refuse(voyage, NotYet, voyage.sail)
                voyage.do_lift(row[0])
        voyage.sail()

    def test_from_the_load_as_it_is_behind_a_lift_that_was_not_told(self):
        voyage = lying_at(0, box("a"), box("b"))
        voyage.plan_for([(LOW, box("a"))])
        voyage.do_lift(("on", LOW, box("b")))
        self.assertEqual(voyage.lifts_left(), [("off", LOW), ("on", LOW, box("a"))])
        voyage.do_lift(("on", HIGH, box("a")))
        self.assertEqual(voyage.lifts_left(), [("off", HIGH), ("off", LOW), ("on", LOW, box("a"))])

    def test_it_is_no_deed(self):
        voyage = lying_at(0, box("a"))
        voyage.plan_for([(LOW, box("a"))])
        log = voyage.log()
        voyage.lifts_left()
        self.assertEqual(voyage.log(), log)


class Sailing(Voyages):
    def test_no_plan(self):
        for voyage in (Voyage(small_ship()), lying_at(0, box("a")), lying_at(2)):
            self.assertEqual(self.refuse(voyage, NoPlan, voyage.sail).why, "none")
        voyage = lying_at(1, box("a"))
        voyage.do_lift(("on", LOW, box("a")))
        self.assertEqual(self.refuse(voyage, NoPlan, voyage.sail).why, "none")

    def test_not_yet(self):
        voyage = lying_at(0, box("a"), box("b"))
        voyage.plan_for([(LOW, box("a"))])
        self.refuse(voyage, NotYet, voyage.sail)
        voyage.do_lift(("on", LOW, box("b")))
        self.refuse(voyage, NotYet, voyage.sail)
        voyage.do_lift(("on", HIGH, box("a")))
        self.refuse(voyage, NotYet, voyage.sail)
        voyage.plan_for([(LOW, box("b")), (HIGH, box("a"))])
        voyage.sail()

    def test_not_yet_with_a_box_too_many(self):
        voyage = lying_at(0, box("a"))
        voyage.plan_for([])
        voyage.do_lift(("on", LOW, box("a")))
        self.refuse(voyage, NotYet, voyage.sail)
        voyage.do_lift(("off", LOW))
        voyage.sail()

    def test_behind_a_sail(self):
        voyage = lying_at(0, box("d"), box("a", port=2), box("c"), box("b"))
        sail_with(voyage, [(LOW, box("a", port=2))])
        self.check_tells(voyage, 1, [(LOW, box("a", port=2))], [box("d"), box("c"), box("b")], [])
        self.assertEqual(voyage.log()[-1], ("sail",))
        self.assertEqual(left_of(voyage), "none")
        self.assertEqual(self.refuse(voyage, NoPlan, voyage.sail).why, "none")

    def test_from_port_to_port(self):
        voyage = Voyage(small_ship())
        for port in range(5):
            self.assertEqual(voyage.port(), port)
            voyage.plan_for([])
            voyage.sail()
        self.assertEqual(voyage.log(), [("plan", ()), ("sail",)] * 5)

    def test_the_quay_in_its_order_over_several_ports(self):
        voyage = lying_at(0, box("b", port=9), box("c", port=1))
        carry_out(voyage, [(LOW, box("b", port=9))])
        voyage.bring(box("a", port=9))
        voyage.sail()
        voyage.do_lift(("off", LOW))
        voyage.bring(box("d", port=9))
        row = [box("c", port=1), box("a", port=9), box("b", port=9), box("d", port=9)]
        for port in (1, 2, 3):
            self.check_tells(voyage, port, [], row, [])
            voyage.plan_for([])
            voyage.sail()


class Whole(Voyages):
    def test_a_log_of_each_kind_of_deed(self):
        voyage = Voyage(small_ship())
        voyage.bring(box("a", port=1))
        voyage.bring(box("b", port=2))
        voyage.plan_for([(HIGH, box("a", port=1)), (LOW, box("b", port=2))])
        voyage.do_lift(("on", LOW, box("b", port=2)))
        voyage.do_lift(("on", HIGH, box("a", port=1)))
        voyage.sail()
        voyage.do_lift(("off", HIGH))
        self.assertEqual(voyage.log(), [
            ("bring", box("a", port=1)), ("bring", box("b", port=2)),
            ("plan", ((LOW, box("b", port=2)), (HIGH, box("a", port=1)))),
            ("on", LOW, box("b", port=2)), ("on", HIGH, box("a", port=1)), ("sail",), ("off", HIGH)])
        self.check_tells(voyage, 1, [(LOW, box("b", port=2))], [], [box("a", port=1)])

    def test_a_log_can_be_done_again(self):
        chance = random.Random(36)
        voyage, model = Voyage(small_ship(40, 20)), Model(small_ship(40, 20))
        for at in range(200):
            self.do_both(voyage, model, *chance_deed(chance, model))
        again = Voyage(small_ship(40, 20))
        for deed in voyage.log():
            if deed[0] == "bring":
                again.bring(deed[1])
            elif deed[0] == "plan":
                again.plan_for(list(deed[1]))
            elif deed[0] == "sail":
                again.sail()
            else:
                again.do_lift(deed)
        self.assertEqual(seen(again), seen(voyage))

    def test_by_chance(self):
        chance, told = random.Random(33), {}
        for at in range(100):
            ship = small_ship(chance.choice([30, 60]), chance.choice([10, 40]))
            voyage, model = Voyage(ship), Model(ship)
            for deed in range(60):
                word = self.do_both(voyage, model, *chance_deed(chance, model))
                told[word] = told.get(word, 0) + 1
                self.check_always(voyage, model)
        for word in ("bring", "plan_for", "do_lift", "sail", "Twice", "Passed", "NoLoad", "strange", "here", "left",
                     "rule", "even", "none", "NotYet", "NoBox", "Unsound", "empty", "full", "name", "under", "hatch"):
            self.assertGreater(told.get(word, 0), 15, (word, told))

    def do_both(self, voyage, model, deed, args):
        """Does a deed, or is refused, as the model tells; tells the word or the class of the refusal, or the deed."""
        expected = model.refusal(deed, args)
        before = seen(voyage)
        try:
            {"bring": voyage.bring, "plan_for": voyage.plan_for, "do_lift": voyage.do_lift,
             "sail": voyage.sail}[deed](*args)
        except StowError as refusal:
            self.assertEqual(seen(voyage), before)
            word = getattr(refusal, "why", type(refusal).__name__)
            self.assertEqual((type(refusal), word), expected)
            return word
        self.assertIsNone(expected)
        model.do(deed, args)
        self.assertEqual(seen(voyage), model.seen())
        return deed

    def check_always(self, voyage, model):
        load = voyage.load_now()
        self.assertTrue(sound(load))
        boxes = [one for cell, one in load.placed] + voyage.quay() + voyage.ashore()
        self.assertEqual(sorted(boxes), sorted(deed[1] for deed in voyage.log() if deed[0] == "bring"))
        if voyage.log()[-1:] == [("sail",)]:
            self.assertTrue(even(load))

    def test_at_the_bounds(self):
        """A hundred boxes on the greatest ship, with the longest numbers, and three hundred deeds."""
        ship = great_ship()
        ship = Ship(ship.bays, ship.foes, 999 * GREAT, 999 * GREAT)
        voyage = Voyage(ship)
        boxes = [great_box(at, GREAT // 100, GREAT // 100) for at in range(90)]
        for one in boxes:
            voyage.bring(one)
        cells = [cell for cell in cells_of(ship) if cell[3] == 0][:90]
        sail_with(voyage, list(zip(cells, boxes)))
        voyage.plan_for(list(zip(reversed(cells), boxes)))
        for lift in voyage.lifts_left()[:300 - len(voyage.log())]:
            voyage.do_lift(lift)
        self.assertEqual(len(voyage.log()), 300)
        self.check_always(voyage, None)
        self.assertEqual(voyage.port(), 1)


class Model:
    """A voyage told once more by [32] to [36], with everything counted anew from the log."""

    def __init__(self, ship):
        self.ship = ship
        self.deeds = []

    def port(self):
        return self.deeds.count(("sail",))

    def state(self):
        """The load's boxes by cell, the quay, those ashore, and the plan or None."""
        load, quay, ashore, plan, port = {}, [], [], None, 0
        for deed in self.deeds:
            if deed[0] == "bring":
                quay = quay + [deed[1]]
            elif deed[0] == "plan":
                plan = deed[1]
            elif deed[0] == "sail":
                plan, port = None, port + 1
            elif deed[0] == "on":
                load[deed[1]] = deed[2]
                quay = [one for one in quay if one[0] != deed[2][0]]
            else:
                one = load.pop(deed[1])
                quay, ashore = (quay, ashore + [one]) if one[5] == port else (quay + [one], ashore)
        return Load(self.ship, list(load.items())), quay, ashore, plan

    def seen(self):
        load, quay, ashore, plan = self.state()
        left = "none" if plan is None else lifts_to(load, Load(self.ship, plan))
        return self.port(), load.placed, quay, ashore, self.deeds, left

    def do(self, deed, args):
        if deed == "plan_for":
            self.deeds = self.deeds + [("plan", Load(self.ship, args[0]).placed)]
        else:
            told = {"bring": ("bring",) + args, "do_lift": args[0] if args else None, "sail": ("sail",)}
            self.deeds = self.deeds + [told[deed]]

    def refusal(self, deed, args):
        """The class and the word (or its name) of the refusal that is due, or None."""
        load, quay, ashore, plan = self.state()
        if deed == "bring":
            names = [done[1][0] for done in self.deeds if done[0] == "bring"]
            due = Twice if args[0][0] in names else Passed if args[0][5] <= self.port() else None
            return due and (due, due.__name__)
        if deed == "sail":
            if plan is None:
                return NoPlan, "none"
            return None if plan == load.placed else (NotYet, "NotYet")
        return self.plan_refusal(load, quay, args[0]) if deed == "plan_for" else self.lift_refusal(load, quay, args[0])

    def plan_refusal(self, load, quay, placed):
        try:
            plan = Load(self.ship, placed)
        except NoLoad:
            return NoLoad, "NoLoad"
        carried, planned = [one for cell, one in load.placed], [one for cell, one in placed]
        due = (("strange", any(one not in carried + quay for one in planned)),
               ("here", any(one[5] <= self.port() for one in planned)),
               ("left", any(one[5] > self.port() and one not in planned for one in carried)),
               ("rule", not sound(plan)), ("even", not even(plan)))
        words = [word for word, is_due in due if is_due]
        return (NoPlan, words[0]) if words else None

    def lift_refusal(self, load, quay, lift):
        try:
            behind = after_lift(load, lift)
        except BadLift as refusal:
            return BadLift, refusal.why
        if lift[0] == "on" and lift[2] not in quay:
            return NoBox, "NoBox"
        return None if sound(behind) else (Unsound, "Unsound")


def chance_box(chance, model):
    return box(chance.choice("abcdefgh"), chance.choice([1, 5, 20, 51]), 3, chance.randrange(4) // 3,
               chance.choice(["tea", "oil", "fire"]), model.port() + chance.randrange(4))


def known_box(chance, model, load, quay, ashore):
    """Mostly a box that was brought."""
    known = [one for cell, one in load.placed] + quay + quay + ashore
    return chance.choice(known) if known and chance.random() < 0.9 else chance_box(chance, model)


def chance_plan(chance, model, load, quay, ashore):
    """The boxes that stay aboard, moved now and then, and some more."""
    kept = [(cell, one) for cell, one in load.placed if one[5] > model.port() or chance.random() < 0.2]
    if chance.random() < 0.2:
        kept = kept[1:]
    cells = [cell for cell in cells_of(model.ship) if cell not in dict(kept)]
    for at in range(chance.randrange(3)):
        one = known_box(chance, model, load, quay, ashore)
        if cells and one not in [other for cell, other in kept]:
            kept.append((cells.pop(0 if chance.random() < 0.8 else -1), one))
    chance.shuffle(kept)
    return kept


def chance_deed(chance, model):
    load, quay, ashore, plan = model.state()
    deed = chance.choice(["bring", "plan", "lift", "lift", "left", "left", "left", "sail"])
    if deed == "bring":
        return "bring", (chance_box(chance, model),)
    if deed == "sail":
        return "sail", ()
    if deed == "plan":
        return "plan_for", (chance_plan(chance, model, load, quay, ashore),)
    row = lifts_to(load, Load(model.ship, plan)) if plan is not None else []
    if deed == "left" and row:
        return "do_lift", (row[0],)
    if chance.random() < 0.4:
        return "do_lift", (("off", chance.choice([cell for cell, one in load.placed] + cells_of(model.ship))),)
    return "do_lift", (("on", chance.choice(cells_of(model.ship)), known_box(chance, model, load, quay, ashore)),)


if __name__ == "__main__":
    unittest.main()
