"""[1] and [3]: nothing handed in is changed or kept, and what is told is the asker's own."""

import copy
import unittest

from samples import UNEVEN_CELLS, UNEVEN_PARTS, box, part, ship_args, uneven_ship_args
from stowhold.errors import (BadLift, BadRow, NoBox, NoFilling, NoLoad, NoNote, NoPlace, NoPlan, NoShip, OutOfShip,
                             StowError, Twice)
from stowhold.fewest import idle_lifts, lifts_to, must_off
from stowhold.fillings import best_filling, in_the_way
from stowhold.hall import done_text, lifts_text
from stowhold.lifts import after_lift, after_lifts, sound_row, way_back
from stowhold.loading import loaded, loaded_by_ports
from stowhold.loads import Load, box_at, cell_of, top_of
from stowhold.moments import even, makeweight, moments, moments_with, moments_without
from stowhold.notes import read_load, written_box, written_load
from stowhold.places import bar_at, bars_of, free_places
from stowhold.rules import Apart, Cold, Height, Lash, Rule, Strength, faults_of, sound
from stowhold.ships import Ship, cells_of, part_at, parts_of
from stowhold.voyage import Voyage


def lists_within(thing):
    if isinstance(thing, (list, dict)):
        return True
    return isinstance(thing, tuple) and any(lists_within(one) for one in thing)


def listed_args():
    return ship_args([[(part(plugs=[0]), part(plugs=[1, 2]))] * 2] * 2, [("tea", "oil")])


def faulty_load():
    """A ship and a load of two boxes of foes, the upper one being too heavy and cold without a plug."""
    ship = Ship(*listed_args())
    return ship, Load(ship, [((0, 0, 0, 0), box("a")), ((0, 0, 0, 1), box("b", 46, 3, 1, "oil"))])


FAULTS = [("apart", (0, 0, 0, 0)), ("strength", (0, 0, 0, 1)), ("cold", (0, 0, 0, 1)), ("apart", (0, 0, 0, 1))]


def load_and_plan():
    """A load and a plan for it with boxes that go, move, stand above and stand on a hatch."""
    ship = Ship(*listed_args())
    load = Load(ship, [((0, 0, 0, 0), box("a")), ((0, 0, 0, 1), box("b")), ((0, 1, 1, 0), box("d")),
                       ((1, 0, 0, 0), box("m"))])
    plan = Load(ship, [((0, 0, 0, 0), box("n")), ((0, 0, 0, 1), box("b")), ((0, 1, 1, 0), box("d")),
                       ((1, 1, 0, 0), box("m"))])
    return load, plan


MUST_OFF = [("a", "goes", ""), ("b", "above", "a"), ("d", "hatch", "a"), ("m", "moves", "")]


def boxes_to_load():
    """Two that can be loaded onto faulty_load, and two that can not, neither in the order of ports."""
    return [box("z", 99, port=1), box("c", port=1), box("y", 99, port=2), box("e", port=3)]


def filling_load():
    """A load with a box in the way, and a ship of one bay with room for two or three more."""
    ship = Ship(*ship_args([[(part(3, plugs=[0]), part(1)), (part(1, 9), part(0))]]))
    return Load(ship, [((0, 0, 0, 0), box("a", port=1)), ((0, 0, 0, 1), box("b", port=2))])


def boxes_to_fill():
    return [box("z", port=3), box("c", port=2)]


def boxes_too_many():
    return [box("z", 10, port=3), box("c", port=2), box("d", 10, 3, 1), box("e")]


def paper_of_none():
    try:
        return best_filling(filling_load(), boxes_too_many())
    except NoFilling as refusal:
        return refusal.paper


def lists_of(paper):
    """All lists within a paper."""
    if paper[0] != "part":
        return []
    told = [paper[1]] + lists_of(paper[2])
    for name, put in paper[1]:
        told += lists_of(put) if isinstance(put, tuple) else []
    return told


def some_voyage():
    """A voyage with something in its load, on its quay, ashore and in its plan."""
    voyage = Voyage(Ship(*listed_args()))
    for one in (box("a", port=1), box("b", port=2), box("c", port=3), box("d", port=4)):
        voyage.bring(one)
    placed = [((0, 0, 0, 0), box("a", port=1)), ((0, 1, 0, 0), box("b", port=2))]
    voyage.plan_for(placed)
    for lift in voyage.lifts_left():
        voyage.do_lift(lift)
    voyage.sail()
    voyage.do_lift(("off", (0, 0, 0, 0)))
    voyage.plan_for([((0, 1, 0, 0), box("b", port=2)), ((0, 0, 1, 0), box("d", port=4))])
    return voyage


def told_by(voyage):
    return (voyage.port(), voyage.load_now().placed, voyage.quay(), voyage.ashore(), voyage.log(), voyage.lifts_left())


class HandedIn(unittest.TestCase):
    def test_a_ship_changes_nothing(self):
        args = listed_args()
        before = copy.deepcopy(args)
        Ship(*args)
        self.assertEqual(args, before)

    def test_a_load_changes_nothing(self):
        placed = [((0, 1, 0, 0), box("b")), ((0, 0, 0, 1), box("c")), ((0, 0, 0, 0), box("a"))]
        before = list(placed)
        Load(Ship(*listed_args()), placed)
        self.assertEqual(placed, before)

    def test_a_refusal_changes_nothing(self):
        args = ship_args([[(part(plugs=[2, 1]), part())]], [("tea", "oil")])
        before = copy.deepcopy(args)
        with self.assertRaises(NoShip):
            Ship(*args)
        self.assertEqual(args, before)
        placed = [((0, 0, 0, 1), box("b")), ((0, 1, 0, 0), box("a"))]
        with self.assertRaises(NoLoad):
            Load(Ship(*listed_args()), placed)
        self.assertEqual(placed, [((0, 0, 0, 1), box("b")), ((0, 1, 0, 0), box("a"))])

    def test_asking_changes_neither_ship_nor_load(self):
        ship = Ship(*listed_args())
        load = Load(ship, [((0, 0, 0, 0), box("a"))])
        before = copy.deepcopy((vars(ship), load.placed))
        for part_name in parts_of(ship):
            part_at(ship, part_name)
            top_of(load, part_name)
        for cell in cells_of(ship):
            box_at(load, cell)
        cell_of(load, "a")
        cell_of(load, "b")
        box_at(load, (9, 9, 9, 9))
        for ask in (lambda: part_at(ship, (9, 0, 0)), lambda: top_of(load, (9, 0, 0))):
            self.assertRaises(OutOfShip, ask)
        self.assertEqual((vars(ship), load.placed), before)

    def test_rules_moments_and_lifts_change_neither_ship_nor_load(self):
        ship, load = faulty_load()
        before = copy.deepcopy((vars(ship), load.placed))
        row = [("off", (0, 0, 0, 1)), ("on", (0, 1, 0, 0), box("c"))]
        for ask in (faults_of, sound, moments, even, lambda asked: after_lift(asked, row[0]),
                    lambda asked: after_lifts(asked, row), lambda asked: sound_row(asked, row),
                    lambda asked: way_back(asked, row), lambda asked: moments_with(asked, (1, 0, 0, 0), box("c")),
                    lambda asked: moments_without(asked, (0, 0, 0, 0)), lambda asked: makeweight(asked, (0, 0, 1))):
            ask(load)
            self.assertEqual((vars(ship), load.placed), before)
        for rule in (Rule(), Strength(), Height(), Cold(), Apart(), Lash()):
            for cell in cells_of(ship):
                rule.broken(load, cell)
        self.assertEqual((vars(ship), load.placed), before)

    def test_refused_lifts_and_questions_change_neither_ship_nor_load(self):
        ship, load = faulty_load()
        before = copy.deepcopy((vars(ship), load.placed))
        row = [("off", (0, 0, 0, 1)), ("off", (0, 0, 0, 1))]
        for refusal, ask in ((BadLift, lambda: after_lift(load, ("off", (0, 0, 0, 0)))),
                             (BadRow, lambda: after_lifts(load, row)), (BadRow, lambda: sound_row(load, row)),
                             (BadRow, lambda: way_back(load, row)),
                             (NoBox, lambda: moments_without(load, (1, 1, 1, 1))),
                             (OutOfShip, lambda: makeweight(load, (2, 0, 0)))):
            self.assertRaises(refusal, ask)
            self.assertEqual((vars(ship), load.placed), before)
        self.assertEqual(row, [("off", (0, 0, 0, 1)), ("off", (0, 0, 0, 1))])

    def test_a_row_of_lifts_is_as_it_was(self):
        ship, load = faulty_load()
        row = [("off", (0, 0, 0, 1)), ("on", (0, 1, 0, 0), box("c")), ("off", (0, 0, 0, 0))]
        for ask in (after_lifts, sound_row, way_back):
            ask(load, row)
            self.assertEqual(row, [("off", (0, 0, 0, 1)), ("on", (0, 1, 0, 0), box("c")), ("off", (0, 0, 0, 0))])


    def test_load_and_plan_are_as_they_were(self):
        load, plan = load_and_plan()
        before = copy.deepcopy((vars(load.ship), load.placed, plan.placed))
        for ask in (must_off, lifts_to, idle_lifts):
            ask(load, plan)
            self.assertEqual((vars(load.ship), load.placed, plan.placed), before)

    def test_places_and_loading_change_neither_ship_nor_load(self):
        ship, load = faulty_load()
        before = copy.deepcopy((vars(ship), load.placed))
        for ask in (free_places, lambda asked: bar_at(asked, (0, 0, 0, 2), box("c")),
                    lambda asked: bars_of(asked, box("c")), lambda asked: loaded(asked, boxes_to_load()),
                    lambda asked: loaded_by_ports(asked, boxes_to_load())):
            ask(load)
            self.assertEqual((vars(ship), load.placed), before)
        for refusal, ask in ((NoPlace, lambda: bar_at(load, (0, 0, 0, 0), box("c"))),
                             (Twice, lambda: bar_at(load, (0, 0, 0, 2), box("a"))),
                             (Twice, lambda: bars_of(load, box("b"))),
                             (Twice, lambda: loaded(load, [box("c"), box("a")])),
                             (Twice, lambda: loaded_by_ports(load, [box("c"), box("c")]))):
            self.assertRaises(refusal, ask)
            self.assertEqual((vars(ship), load.placed), before)

    def test_fillings_change_neither_load_nor_boxes(self):
        load, boxes = filling_load(), boxes_to_fill()
        before = copy.deepcopy((vars(load.ship), load.placed))
        in_the_way(load)
        filled, paper = best_filling(load, boxes)
        self.assertIn("b", in_the_way(filled))
        self.assertEqual((vars(load.ship), load.placed), before)
        self.assertEqual(boxes, boxes_to_fill())
        for refusal, wrong in ((Twice, boxes + [box("a")]), (Twice, boxes + boxes), (NoFilling, boxes_too_many())):
            asked = list(wrong)
            self.assertRaises(refusal, best_filling, load, asked)
            self.assertEqual(asked, wrong)
            self.assertEqual((vars(load.ship), load.placed), before)

    def test_a_voyage_changes_neither_ship_nor_plan(self):
        ship = Ship(*listed_args())
        before = copy.deepcopy(vars(ship))
        voyage = Voyage(ship)
        voyage.bring(box("a"))
        placed = [((0, 1, 0, 0), box("a"))]
        voyage.plan_for(placed)
        for lift in voyage.lifts_left():
            voyage.do_lift(lift)
        voyage.bring(box("b"))
        for refusal, wrong in ((NoLoad, [((0, 1, 0, 1), box("b")), ((0, 1, 0, 0), box("a")), ((0, 1, 0, 3), box("c"))]),
                               (NoPlan, [((0, 1, 0, 1), box("c")), ((0, 1, 0, 0), box("a"))])):
            asked = list(wrong)
            self.assertRaises(refusal, voyage.plan_for, asked)
            self.assertEqual(asked, wrong)
        turned = [((0, 1, 1, 0), box("b")), ((0, 1, 0, 0), box("a"))]
        voyage.plan_for(turned)
        self.assertEqual((placed, turned), ([((0, 1, 0, 0), box("a"))],
                                            [((0, 1, 1, 0), box("b")), ((0, 1, 0, 0), box("a"))]))
        self.assertEqual(vars(ship), before)

    def test_texts_change_neither_ship_nor_load(self):
        ship, load = faulty_load()
        before = copy.deepcopy((vars(ship), load.placed))
        text = written_load(load)
        row = lifts_text(ship, text, "")
        for ask in (lambda: written_box(box("a")), lambda: written_load(load), lambda: read_load(ship, text),
                    lambda: read_load(ship, ""), lambda: lifts_text(ship, text, ""),
                    lambda: done_text(ship, text, row)):
            ask()
            self.assertEqual((vars(ship), load.placed), before)
        for refusal, ask in ((NoNote, lambda: read_load(ship, "x")),
                             (NoLoad, lambda: read_load(ship, text + "\n" + text)),
                             (NoNote, lambda: lifts_text(ship, text, "x")),
                             (NoNote, lambda: done_text(ship, text, "x")),
                             (BadRow, lambda: done_text(ship, "", row))):
            self.assertRaises(refusal, ask)
            self.assertEqual((vars(ship), load.placed), before)

    def test_a_list_of_boxes_is_as_it_was(self):
        ship, load = faulty_load()
        for load_boxes in (loaded, loaded_by_ports):
            boxes = boxes_to_load()
            load_boxes(load, boxes)
            self.assertEqual(boxes, boxes_to_load())
            boxes.append(box("a"))
            self.assertRaises(Twice, load_boxes, load, boxes)
            self.assertEqual(boxes, boxes_to_load() + [box("a")])


class NotKept(unittest.TestCase):
    def test_a_ship_keeps_no_list(self):
        ship = Ship(*listed_args())
        for field in (ship.bays, ship.foes):
            self.assertIsInstance(field, tuple)
            self.assertFalse(lists_within(field))

    def test_lists_of_a_ship_changed_afterwards(self):
        plugs, other_plugs, foes = [0], [1], [("tea", "oil")]
        stacks = [(0, part(plugs=plugs), part(plugs=other_plugs))]
        bays = [(0, stacks)]
        ship = Ship(bays, foes, 1, 2)
        before = copy.deepcopy(vars(ship))
        told = (parts_of(ship), cells_of(ship), part_at(ship, (0, 0, 0)), part_at(ship, (0, 0, 1)))
        plugs.append(1)
        other_plugs[0] = 2
        foes.append(("oil", "oil"))
        stacks.append((1, part(), part()))
        bays.append((1, stacks))
        self.assertEqual(vars(ship), before)
        self.assertEqual((parts_of(ship), cells_of(ship), part_at(ship, (0, 0, 0)), part_at(ship, (0, 0, 1))), told)
        self.assertEqual((ship.bays[0][1][0][1][3], ship.bays[0][1][0][2][3]), ((0,), (1,)))

    def test_the_list_of_a_load_changed_afterwards(self):
        placed = [((0, 0, 0, 0), box("a"))]
        load = Load(Ship(*listed_args()), placed)
        placed.append(((0, 0, 0, 1), box("b")))
        placed[0] = ((0, 1, 0, 0), box("c"))
        self.assertEqual(load.placed, (((0, 0, 0, 0), box("a")),))
        self.assertEqual([box_at(load, (0, 0, 0, 0)), box_at(load, (0, 0, 0, 1)), box_at(load, (0, 1, 0, 0))],
                         [box("a"), None, None])
        self.assertEqual([cell_of(load, "a"), cell_of(load, "b"), cell_of(load, "c")], [(0, 0, 0, 0), None, None])
        self.assertEqual([top_of(load, (0, 0, 0)), top_of(load, (0, 1, 0))], [1, 0])

    def test_one_list_for_two_loads(self):
        ship, placed = Ship(*listed_args()), [((0, 0, 0, 0), box("a"))]
        first = Load(ship, placed)
        placed.append(((0, 0, 0, 1), box("b")))
        second = Load(ship, placed)
        self.assertEqual((len(first.placed), len(second.placed)), (1, 2))
        self.assertEqual((top_of(first, (0, 0, 0)), top_of(second, (0, 0, 0))), (1, 2))

    def test_a_row_of_lifts_changed_afterwards(self):
        ship, load = faulty_load()
        row = [("off", (0, 0, 0, 1)), ("on", (0, 1, 0, 0), box("c"))]
        behind, back = after_lifts(load, row), way_back(load, row)
        row.append(("off", (0, 1, 0, 0)))
        row[0] = ("off", (0, 0, 0, 0))
        self.assertEqual(behind.placed, (((0, 0, 0, 0), box("a")), ((0, 1, 0, 0), box("c"))))
        self.assertEqual(back, [("off", (0, 1, 0, 0)), ("on", (0, 0, 0, 1), box("b", 46, 3, 1, "oil"))])
        row.clear()
        self.assertIsNot(way_back(load, row), row)
        self.assertEqual(way_back(load, row), [])


    def test_a_list_of_boxes_changed_afterwards(self):
        ship, load = faulty_load()
        for load_boxes in (loaded, loaded_by_ports):
            boxes = boxes_to_load()
            filled, left = load_boxes(load, boxes)
            before = copy.deepcopy((filled.placed, left))
            boxes.append(box("f"))
            boxes[0] = box("g")
            self.assertEqual((filled.placed, left), before)
            boxes.clear()
            self.assertEqual((filled.placed, left), before)
            self.assertIsNot(load_boxes(load, boxes)[1], boxes)

    def test_boxes_to_fill_changed_afterwards(self):
        boxes = boxes_to_fill()
        filled, paper = best_filling(filling_load(), boxes)
        before = copy.deepcopy((filled.placed, paper))
        boxes[0] = box("f")
        boxes.append(box("g"))
        self.assertEqual((filled.placed, paper), before)
        self.assertEqual(best_filling(filling_load(), boxes_to_fill())[1], before[1])

    def test_a_plans_list_changed_afterwards(self):
        voyage = Voyage(Ship(*listed_args()))
        voyage.bring(box("a"))
        voyage.bring(box("b"))
        placed = [((0, 1, 0, 0), box("a"))]
        voyage.plan_for(placed)
        placed.append(((0, 0, 0, 0), box("b")))
        placed[0] = ((0, 1, 0, 0), box("b"))
        self.assertEqual(voyage.lifts_left(), [("on", (0, 1, 0, 0), box("a"))])
        self.assertEqual(voyage.log()[-1], ("plan", (((0, 1, 0, 0), box("a")),)))
        voyage.do_lift(("on", (0, 1, 0, 0), box("a")))
        voyage.sail()


class Told(unittest.TestCase):
    def test_lists_that_were_told_are_the_askers_own(self):
        ship = Ship(*uneven_ship_args())
        for tell, told in ((parts_of, UNEVEN_PARTS), (cells_of, UNEVEN_CELLS)):
            first = tell(ship)
            second = tell(ship)
            first.append("more")
            first[0] = "other"
            self.assertEqual(second, told)
            self.assertEqual(tell(ship), told)
            second.clear()
            self.assertEqual(tell(ship), told)

    def test_a_told_list_does_not_reach_the_load(self):
        ship = Ship(*uneven_ship_args())
        load = Load(ship, [((1, 0, 0, 0), box("a"))])
        cells_of(ship).clear()
        parts_of(ship).clear()
        self.assertEqual(top_of(load, (1, 0, 0)), 1)
        self.assertEqual(len(Load(ship, [((1, 0, 0, 0), box("a"))]).placed), 1)

    def test_faults_that_were_told_are_the_askers_own(self):
        ship, load = faulty_load()
        first, second = faults_of(load), faults_of(load)
        first.append("more")
        first[0] = "other"
        self.assertEqual(second, FAULTS)
        self.assertEqual(faults_of(load), FAULTS)
        second.clear()
        self.assertEqual(faults_of(load), FAULTS)
        self.assertIs(sound(load), False)
        empty = Load(ship, [])
        faults_of(empty).append(FAULTS[0])
        self.assertEqual((faults_of(empty), sound(empty)), ([], True))

    def test_a_way_back_that_was_told_is_the_askers_own(self):
        ship, load = faulty_load()
        row = [("off", (0, 0, 0, 1)), ("on", (0, 1, 0, 0), box("c"))]
        told = [("off", (0, 1, 0, 0)), ("on", (0, 0, 0, 1), box("b", 46, 3, 1, "oil"))]
        first, second = way_back(load, row), way_back(load, row)
        first.append("more")
        first[0] = "other"
        self.assertEqual(second, told)
        second.clear()
        self.assertEqual(way_back(load, row), told)

    def test_loads_behind_one_another_have_nothing_in_common(self):
        ship, load = faulty_load()
        behind = after_lift(load, ("off", (0, 0, 0, 1)))
        told = behind.placed
        further = after_lift(behind, ("on", (0, 1, 1, 0), box("c")))
        after_lifts(behind, [("off", (0, 0, 0, 0)), ("on", (0, 0, 0, 0), box("d"))])
        self.assertEqual(behind.placed, told)
        self.assertEqual((len(load.placed), len(behind.placed), len(further.placed)), (2, 1, 2))
        self.assertEqual([cell_of(load, "c"), cell_of(behind, "c"), cell_of(further, "c")], [None, None, (0, 1, 1, 0)])

    def check_own(self, tell, told):
        """What is done to a list that was told changes neither one that was told besides nor one told later."""
        first, second = tell(), tell()
        self.assertEqual(first, told)
        first.append("more")
        first[0] = "other"
        self.assertEqual(second, told)
        second.clear()
        self.assertEqual(tell(), told)

    def test_lists_on_the_way_to_a_plan_are_the_askers_own(self):
        load, plan = load_and_plan()
        row = lifts_to(load, plan)
        self.check_own(lambda: must_off(load, plan), MUST_OFF)
        self.check_own(lambda: lifts_to(load, plan), list(row))
        self.assertEqual(idle_lifts(load, plan), 4)
        for told in must_off(load, plan) + lifts_to(load, plan):
            self.assertIsInstance(told, tuple)
            self.assertFalse(lists_within(told))
        must_off(load, load).append(MUST_OFF[0])
        lifts_to(load, load).append(row[0])
        self.assertEqual((must_off(load, load), lifts_to(load, load), idle_lifts(load, load)), ([], [], 0))

    def test_places_and_bars_that_were_told_are_the_askers_own(self):
        ship, load = faulty_load()
        places = [(0, 0, 0, 2), (0, 1, 0, 0), (0, 0, 1, 0), (0, 1, 1, 0), (1, 0, 0, 0), (1, 1, 0, 0), (1, 0, 1, 0),
                  (1, 1, 1, 0)]
        bars = [(cell, word) for cell, word in zip(places, ["strength", "apart"] + [None] * 6)]
        self.check_own(lambda: free_places(load), places)
        self.check_own(lambda: bars_of(load, box("c")), bars)
        self.assertIsNone(bar_at(load, (0, 0, 1, 0), box("c")))
        for told in free_places(load) + bars_of(load, box("c")):
            self.assertIsInstance(told, tuple)
            self.assertFalse(lists_within(told))

    def test_what_was_left_is_the_askers_own(self):
        ship, load = faulty_load()
        for load_boxes in (loaded, loaded_by_ports):
            first, second = load_boxes(load, boxes_to_load()), load_boxes(load, boxes_to_load())
            before = copy.deepcopy(second[1])
            self.assertEqual([len(bars) > 0 for one, bars in before], [True, True])
            # Two boxes that were left behind one another with the same bars have a list each.
            first[1][0][1].append("more")
            self.assertEqual(first[1][1], before[1])
            first[1][1][1].clear()
            first[1].clear()
            self.assertEqual(second[1], before)
            self.assertEqual(load_boxes(load, boxes_to_load())[1], before)
            self.assertEqual(bars_of(load, box("z", 99))[0], ((0, 0, 0, 2), "strength"))

    def test_two_that_were_left_without_a_free_place_have_a_list_each(self):
        load = Load(Ship(*ship_args([[(part(0), part(0))]])), [])
        left = loaded(load, [box("a"), box("b")])[1]
        left[0][1].append("more")
        self.assertEqual(left[1], (box("b"), []))
        self.assertEqual(loaded(load, [box("a")])[1], [(box("a"), [])])

    def test_names_in_the_way_are_the_askers_own(self):
        load = filling_load()
        self.check_own(lambda: in_the_way(load), ["b"])
        empty = Load(load.ship, [])
        in_the_way(empty).append("a")
        self.assertEqual(in_the_way(empty), [])

    def test_papers_are_the_askers_own(self):
        for tell in (paper_of_none, lambda: best_filling(filling_load(), boxes_to_fill())[1]):
            first, second = tell(), tell()
            before = copy.deepcopy(second)
            self.assertGreater(len(lists_of(first)), 3)
            for told in lists_of(first):
                told.clear()
            self.assertEqual(second, before)
            self.assertEqual(tell(), before)

    def test_no_list_stands_twice_in_a_paper(self):
        for paper in (paper_of_none(), best_filling(filling_load(), boxes_to_fill())[1]):
            told = lists_of(paper)
            self.assertEqual(len({id(one) for one in told}), len(told))

    def test_what_was_told_of_a_voyage_is_the_askers_own(self):
        voyage = some_voyage()
        before = copy.deepcopy(told_by(voyage))
        for tell in (voyage.quay, voyage.ashore, voyage.log, voyage.lifts_left):
            self.check_own(tell, tell())
        self.assertEqual(told_by(voyage), before)
        for told in before[2] + before[3] + before[4] + before[5]:
            self.assertIsInstance(told, tuple)
            self.assertFalse(lists_within(told))

    def test_later_deeds_change_nothing_that_a_voyage_told(self):
        voyage = some_voyage()
        load, told = voyage.load_now(), told_by(voyage)
        before = copy.deepcopy((load.placed, told))
        voyage.bring(box("e", port=5))
        voyage.do_lift(("off", (0, 1, 0, 0)))
        voyage.plan_for([((1, 0, 0, 0), box("e", port=5))])
        for lift in voyage.lifts_left():
            voyage.do_lift(lift)
        voyage.sail()
        self.assertEqual((load.placed, told), before)
        self.assertEqual((box_at(load, (0, 1, 0, 0)), cell_of(load, "e")), (box("b", port=2), None))
        self.assertEqual((len(voyage.log()), voyage.quay()[-1], voyage.load_now().placed),
                         (len(told[4]) + 5, box("b", port=2), (((1, 0, 0, 0), box("e", port=5)),)))

    def test_empty_lists_of_a_voyage_are_the_askers_own(self):
        voyage = Voyage(Ship(*listed_args()))
        voyage.plan_for([])
        for tell in (voyage.quay, voyage.ashore, voyage.lifts_left):
            tell().append("more")
            self.assertEqual(tell(), [])
        self.assertEqual(Voyage(Ship(*listed_args())).quay(), [])

    def test_a_refused_deed_keeps_nothing(self):
        voyage = some_voyage()
        before = copy.deepcopy(told_by(voyage))
        for deed, asked in ((voyage.bring, box("a", port=9)), (voyage.bring, box("f", port=1)),
                            (voyage.plan_for, [((0, 0, 0, 1), box("d", port=4))]), (voyage.plan_for, []),
                            (voyage.do_lift, ("off", (0, 0, 0, 0))), (voyage.do_lift, ("on", (1, 0, 0, 0), box("x")))):
            self.assertRaises(StowError, deed, asked)
            self.assertEqual(told_by(voyage), before)
        self.assertRaises(StowError, voyage.sail)
        self.assertEqual(told_by(voyage), before)

    def test_what_is_told_of_moments_holds_no_list(self):
        ship, load = faulty_load()
        for told in (moments(load), moments_with(load, (0, 0, 0, 2), box("c")), moments_without(load, (0, 0, 0, 1)),
                     makeweight(load, (0, 0, 0))):
            self.assertIsInstance(told, tuple)
            self.assertFalse(lists_within(told))

    def test_what_is_told_of_loads_and_parts_holds_no_list(self):
        ship = Ship(*listed_args())
        load = Load(ship, [((0, 0, 0, 0), box("a"))])
        for told in (load.placed, box_at(load, (0, 0, 0, 0)), cell_of(load, "a"), part_at(ship, (0, 0, 1))):
            self.assertIsInstance(told, tuple)
            self.assertFalse(lists_within(told))

    def test_two_ships_have_nothing_in_common(self):
        one, other = Ship(*listed_args()), Ship(*uneven_ship_args())
        self.assertEqual(cells_of(other), UNEVEN_CELLS)
        self.assertEqual(len(cells_of(one)), 24)
        self.assertEqual(parts_of(other), UNEVEN_PARTS)


if __name__ == "__main__":
    unittest.main()
