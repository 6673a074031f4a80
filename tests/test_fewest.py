"""[18] to [21]: what must come off on the way to a plan, and the fewest lifts that lead there."""

import itertools
import random
import unittest

from samples import GREAT, box, great_box, great_ship, part, plain_ship, ship_args
from stowhold.fewest import idle_lifts, lifts_to, must_off
from stowhold.lifts import after_lift, after_lifts, sound_row
from stowhold.loads import Load, box_at, cell_of
from stowhold.rules import sound
from stowhold.ships import Ship, cells_of, parts_of

# A box, and for each of its six things the same box with that one changed.
AMBER = ("amber", 10, 8, 0, "fish", 2)
CHANGED = [("birch", 10, 8, 0, "fish", 2), ("amber", 11, 8, 0, "fish", 2), ("amber", 10, 7, 0, "fish", 2),
           ("amber", 10, 8, 1, "fish", 2), ("amber", 10, 8, 0, "wood", 2), ("amber", 10, 8, 0, "fish", 3)]


def small_ship():
    """One bay of two stacks; four parts of two, one, two and one cells."""
    return Ship(*ship_args([[(part(2), part(2)), (part(1), part(1))]]))


def load_of(cells, ship=None):
    """A load of plain boxes from a dict of their cells by name."""
    return Load(ship or plain_ship(), [(cell, box(name)) for name, cell in cells.items()])


def off_between(cells, planned):
    return must_off(load_of(cells), load_of(planned))


def all_loads(ship, boxes):
    """Each load of some of the boxes."""
    found = {(): Load(ship, [])}
    ends = [Load(ship, [])]
    while ends:
        load = ends.pop()
        for name_part, one in itertools.product(parts_of(ship), boxes):
            cell = name_part + (sum(taken[:3] == name_part for taken, other in load.placed),)
            if cell in cells_of(ship) and cell_of(load, one[0]) is None:
                fuller = Load(ship, load.placed + ((cell, one),))
                if fuller.placed not in found:
                    found[fuller.placed] = fuller
                    ends.append(fuller)
    return list(found.values())


def some_load(chance, ship, names, likeness=None):
    """A load by chance; each of its boxes stands where the likeness has one, as far as that can be."""
    placed = []
    for name_part in parts_of(ship):
        for tier in range(chance.randrange(4)):
            cell = name_part + (tier,)
            like = box_at(likeness, cell) if likeness and chance.random() < 0.8 else None
            one = like or box(chance.choice(names), chance.randrange(2))
            if cell in cells_of(ship) and one[0] not in [other[0] for taken, other in placed]:
                placed.append((cell, one))
            else:
                break
    return Load(ship, placed)


def pairs_by_chance(count):
    """Loads and plans for a ship of two bays, some boxes of which stay."""
    chance = random.Random(18)
    ship = plain_ship()
    names = ["".join(letters) for letters in itertools.product("abcd", repeat=3)]
    for at in range(count):
        load = some_load(chance, ship, names)
        yield load, some_load(chance, ship, names, load)


def coming_off(load, plan, stays, going_on):
    """The cells that must come off, word by word as [18] and [19] tell them: added to until nothing more is due."""
    off = {cell for cell, one in load.placed if cell not in stays}
    while True:
        hatches = {cell[0] for cell in [*off, *going_on] if cell[2] == 0}
        due = {cell for cell in stays if (cell[2] == 1 and cell[0] in hatches)
               or any(other[:3] == cell[:3] and other[3] < cell[3] for other in off)}
        if due <= off:
            return [cell for cell in cells_of(load.ship) if cell in off]
        off |= due


def off_by_words(load, plan):
    """What must_off is to tell, word by word as [18] and [19] say it."""
    stays = [cell for cell, one in load.placed if (cell, one) in plan.placed]
    going_on = [cell for cell, one in plan.placed if cell not in stays]
    off = coming_off(load, plan, stays, going_on)
    told = []
    for cell in off:
        name = box_at(load, cell)[0]
        if cell not in stays:
            told.append((name, "moves" if name in [one[0] for where, one in plan.placed] else "goes", ""))
        elif any(other[:3] == cell[:3] and other[3] < cell[3] for other in off):
            told.append((name, "above", box_at(load, cell[:3] + (cell[3] - 1,))[0]))
        else:
            first_off = [box_at(load, other)[0] for other in off if other[0] == cell[0] and other[2] == 0]
            first_on = [box_at(plan, other)[0] for other in going_on if other[0] == cell[0] and other[2] == 0]
            told.append((name, "hatch", (first_off or first_on)[0]))
    return told


class ByThePlan(unittest.TestCase):
    def test_goes(self):
        for cell in ((0, 0, 0, 0), (0, 2, 1, 0), (1, 1, 0, 0), (1, 2, 1, 0)):
            self.assertEqual(off_between({"a": cell}, {}), [("a", "goes", "")])
            self.assertEqual(off_between({"a": cell}, {"b": cell}), [("a", "goes", "")])
            self.assertEqual(off_between({"a": cell}, {"b": (1, 0, 1, 0)}), [("a", "goes", "")])

    def test_moves_to_another_cell(self):
        cells = [(0, 0, 0, 0), (0, 1, 0, 0), (0, 0, 1, 0), (1, 0, 0, 0), (1, 2, 1, 0)]
        for cell, other in itertools.permutations(cells, 2):
            self.assertEqual(off_between({"a": cell}, {"a": other}), [("a", "moves", "")])

    def test_moves_to_another_tier(self):
        self.assertEqual(off_between({"a": (0, 0, 0, 0)}, {"b": (0, 0, 0, 0), "a": (0, 0, 0, 1)}),
                         [("a", "moves", "")])
        self.assertEqual(off_between({"a": (0, 0, 0, 0), "b": (0, 0, 0, 1)}, {"b": (0, 0, 0, 0), "a": (0, 0, 0, 1)}),
                         [("a", "moves", ""), ("b", "moves", "")])

    def test_one_of_the_six_things_changed(self):
        for cell in ((0, 1, 0, 0), (1, 2, 1, 0)):
            load = Load(plain_ship(), [(cell, AMBER)])
            for at, changed in enumerate(CHANGED):
                plan = Load(plain_ship(), [(cell, changed)])
                self.assertEqual(must_off(load, plan), [("amber", "goes" if at == 0 else "moves", "")])
                self.assertEqual(lifts_to(load, plan), [("off", cell), ("on", cell, changed)])
                self.assertEqual(idle_lifts(load, plan), 0)

    def test_changed_and_in_another_cell(self):
        for changed in CHANGED[1:]:
            plan = Load(plain_ship(), [((0, 1, 0, 0), changed)])
            self.assertEqual(must_off(Load(plain_ship(), [((0, 0, 0, 0), AMBER)]), plan), [("amber", "moves", "")])

    def test_two_that_change_places_move(self):
        one, other = (0, 0, 0, 0), (1, 1, 0, 0)
        self.assertEqual(off_between({"a": one, "b": other}, {"a": other, "b": one}),
                         [("a", "moves", ""), ("b", "moves", "")])

    def test_stays(self):
        cells = {"a": (0, 0, 0, 0), "b": (0, 0, 0, 1), "c": (0, 2, 0, 0), "d": (1, 1, 1, 0)}
        for name in "bcd":
            planned = {other: cell for other, cell in cells.items() if other != name}
            self.assertEqual(off_between(cells, planned), [(name, "goes", "")])
            self.assertEqual(off_between(planned, cells), [])

    def test_beside_and_beneath_one_that_comes_off_a_box_stays(self):
        for deck in (0, 1):
            cells = {"a": (0, 0, deck, 0), "b": (0, 0, deck, 1), "c": (0, 1, deck, 0), "d": (1, 0, deck, 0)}
            self.assertEqual(off_between(cells, {name: cells[name] for name in "acd"}), [("b", "goes", "")])
            self.assertEqual(off_between(cells, {name: cells[name] for name in "abd"}), [("c", "goes", "")])

    def test_alike(self):
        for cells in ({}, {"a": (0, 0, 0, 0)}, {"a": (0, 0, 0, 0), "b": (0, 0, 1, 0), "c": (0, 0, 1, 1)}):
            self.assertEqual(off_between(cells, cells), [])
            load = load_of(cells)
            self.assertEqual((must_off(load, load), lifts_to(load, load), idle_lifts(load, load)), ([], [], 0))

    def test_from_nothing_nothing_comes_off(self):
        self.assertEqual(off_between({}, {"a": (0, 0, 0, 0), "b": (0, 0, 1, 0)}), [])

    def test_kinds(self):
        told = off_between({"a": (0, 0, 0, 0), "b": (0, 0, 0, 1), "c": (0, 0, 1, 0)}, {"b": (0, 0, 0, 0)})
        self.assertIsInstance(told, list)
        for one in told:
            self.assertIsInstance(one, tuple)
            self.assertEqual([type(thing) for thing in one], [str, str, str])


class Above(unittest.TestCase):
    def test_right_above_one_that_goes(self):
        for deck in (0, 1):
            # A load has no gaps, so what stays above a box that goes has another one beneath it in the plan.
            cells = {"a": (0, 1, deck, 0), "b": (0, 1, deck, 1)}
            self.assertEqual(off_between(cells, {"n": (0, 1, deck, 0), "b": (0, 1, deck, 1)}),
                             [("a", "goes", ""), ("b", "above", "a")])

    def test_right_above_one_that_moves(self):
        for deck in (0, 1):
            cells = {"a": (0, 1, deck, 0), "b": (0, 1, deck, 1)}
            planned = {"n": (0, 1, deck, 0), "b": (0, 1, deck, 1), "a": (1, 1, deck, 0)}
            self.assertEqual(off_between(cells, planned), [("a", "moves", ""), ("b", "above", "a")])

    def test_above_one_that_is_changed_in_its_cell(self):
        for changed in CHANGED:
            load = Load(plain_ship(), [((0, 0, 0, 0), AMBER), ((0, 0, 0, 1), box("b"))])
            plan = Load(plain_ship(), [((0, 0, 0, 0), changed), ((0, 0, 0, 1), box("b"))])
            self.assertEqual(must_off(load, plan)[1:], [("b", "above", "amber")])
            self.assertEqual(idle_lifts(load, plan), 2)

    def test_several_one_upon_the_other(self):
        for deck in (0, 1):
            cells = {"a": (0, 1, deck, 0), "b": (0, 1, deck, 1), "c": (0, 1, deck, 2)}
            planned = {"n": (0, 1, deck, 0), "b": (0, 1, deck, 1), "c": (0, 1, deck, 2)}
            self.assertEqual(off_between(cells, planned),
                             [("a", "goes", ""), ("b", "above", "a"), ("c", "above", "b")])

    def test_a_box_between_goes(self):
        cells = {"a": (0, 1, 0, 0), "b": (0, 1, 0, 1), "c": (0, 1, 0, 2)}
        planned = {"a": (0, 1, 0, 0), "n": (0, 1, 0, 1), "c": (0, 1, 0, 2)}
        self.assertEqual(off_between(cells, planned), [("b", "goes", ""), ("c", "above", "b")])

    def test_two_come_off_by_the_plan_and_one_stays_above(self):
        cells = {"a": (0, 1, 0, 0), "b": (0, 1, 0, 1), "c": (0, 1, 0, 2)}
        planned = {"b": (0, 1, 0, 0), "n": (0, 1, 0, 1), "c": (0, 1, 0, 2)}
        self.assertEqual(off_between(cells, planned), [("a", "goes", ""), ("b", "moves", ""), ("c", "above", "b")])

    def test_one_that_comes_off_by_the_plan_is_never_told_as_above(self):
        cells = {"a": (0, 1, 0, 0), "b": (0, 1, 0, 1), "c": (0, 1, 0, 2)}
        planned = {"b": (0, 1, 0, 0), "c": (1, 0, 0, 0)}
        self.assertEqual(off_between(cells, planned), [("a", "goes", ""), ("b", "moves", ""), ("c", "moves", "")])

    def test_a_whole_part_of_nine(self):
        ship = Ship(*ship_args([[(part(9), part(9))]]))
        for deck in (0, 1):
            cells = {name: (0, 0, deck, tier) for tier, name in enumerate("abcdefghi")}
            planned = {**{name: cell for name, cell in cells.items() if name != "a"}, "n": (0, 0, deck, 0)}
            told = must_off(load_of(cells, ship), load_of(planned, ship))
            self.assertEqual(told, [("a", "goes", "")] + [(name, "above", beneath)
                                                          for beneath, name in itertools.pairwise("abcdefghi")])


class Hatch(unittest.TestCase):
    def test_a_box_in_the_hold_that_goes(self):
        for stack in range(3):
            cells = {"a": (0, 1, 0, 0), "d": (0, stack, 1, 0)}
            self.assertEqual(off_between(cells, {"d": (0, stack, 1, 0)}), [("a", "goes", ""), ("d", "hatch", "a")])

    def test_a_box_in_the_hold_that_moves(self):
        for target in ((0, 2, 0, 0), (0, 2, 1, 0), (1, 0, 0, 0), (1, 0, 1, 0)):
            cells = {"a": (0, 1, 0, 0), "d": (0, 0, 1, 0)}
            self.assertEqual(off_between(cells, {"a": target, "d": (0, 0, 1, 0)}),
                             [("a", "moves", ""), ("d", "hatch", "a")])

    def test_a_box_in_the_hold_that_is_changed_in_its_cell(self):
        for changed in CHANGED[1:]:
            load = Load(plain_ship(), [((1, 0, 0, 0), AMBER), ((1, 2, 1, 0), box("d"))])
            plan = Load(plain_ship(), [((1, 0, 0, 0), changed), ((1, 2, 1, 0), box("d"))])
            self.assertEqual(must_off(load, plan), [("amber", "moves", ""), ("d", "hatch", "amber")])

    def test_a_box_in_the_hold_that_stays_above_one_that_comes_off(self):
        cells = {"a": (0, 1, 0, 0), "b": (0, 1, 0, 1), "d": (0, 0, 1, 0)}
        planned = {"n": (0, 1, 0, 0), "b": (0, 1, 0, 1), "d": (0, 0, 1, 0)}
        self.assertEqual(off_between(cells, planned), [("a", "goes", ""), ("b", "above", "a"), ("d", "hatch", "a")])

    def test_a_box_that_only_must_go_on(self):
        for stack, tier in ((0, 0), (1, 1), (2, 0)):
            cells = {"a": (0, 1, 0, 0), "d": (0, 1, 1, 0)}
            self.assertEqual(off_between(cells, {**cells, "n": (0, stack, 0, tier)}), [("d", "hatch", "n")])

    def test_a_box_that_moves_into_the_hold_from_elsewhere(self):
        for source in ((0, 0, 1, 0), (1, 0, 0, 0), (1, 2, 1, 0)):
            told = off_between({"m": source, "d": (0, 2, 1, 0)}, {"m": (0, 1, 0, 0), "d": (0, 2, 1, 0)})
            self.assertEqual(sorted(told), [("d", "hatch", "m"), ("m", "moves", "")])

    def test_the_first_that_comes_off_is_told_by_its_cell_in_the_load(self):
        cells = {"b": (0, 0, 0, 0), "a": (0, 2, 0, 0), "d": (0, 1, 1, 0)}
        self.assertEqual(off_between(cells, {"d": (0, 1, 1, 0)})[-1], ("d", "hatch", "b"))
        planned = {"a": (0, 0, 0, 0), "b": (0, 2, 0, 0), "d": (0, 1, 1, 0)}
        self.assertEqual(off_between(cells, planned)[-1], ("d", "hatch", "b"))

    def test_the_first_of_one_part_and_of_several(self):
        cells = {"z": (0, 1, 0, 0), "y": (0, 1, 0, 1), "x": (0, 2, 0, 0), "d": (0, 0, 1, 0)}
        planned = {"d": (0, 0, 1, 0)}
        self.assertEqual(off_between(cells, planned)[-1], ("d", "hatch", "z"))
        self.assertEqual(off_between(cells, {"z": (0, 1, 0, 0), **planned})[-1], ("d", "hatch", "y"))
        self.assertEqual(off_between(cells, {"z": (0, 1, 0, 0), "y": (0, 1, 0, 1), **planned})[-1], ("d", "hatch", "x"))

    def test_one_that_comes_off_is_told_ahead_of_one_that_goes_on(self):
        cells = {"z": (0, 2, 0, 0), "d": (0, 1, 1, 0)}
        self.assertEqual(off_between(cells, {"a": (0, 0, 0, 0), "d": (0, 1, 1, 0)}),
                         [("z", "goes", ""), ("d", "hatch", "z")])

    def test_the_first_that_goes_on_is_told_by_its_cell_in_the_plan(self):
        cells = {"d": (0, 1, 1, 0)}
        self.assertEqual(off_between(cells, {**cells, "a": (0, 2, 0, 0), "z": (0, 1, 0, 0), "y": (0, 1, 0, 1)}),
                         [("d", "hatch", "z")])
        # By their cells in the load a would come ahead of z.
        cells = {"a": (0, 0, 1, 0), "d": (0, 1, 1, 0), "z": (1, 0, 0, 0)}
        planned = {"z": (0, 0, 0, 0), "a": (0, 2, 0, 0), "d": (0, 1, 1, 0)}
        self.assertEqual(off_between(cells, planned), [("a", "moves", ""), ("d", "hatch", "z"), ("z", "moves", "")])

    def test_a_box_that_stays_in_the_hold_is_not_told(self):
        cells = {"a": (0, 0, 0, 0), "b": (0, 1, 0, 0), "d": (0, 1, 1, 0)}
        self.assertEqual(off_between(cells, {"a": (0, 0, 0, 0), "d": (0, 1, 1, 0)})[-1], ("d", "hatch", "b"))
        self.assertEqual(off_between(cells, {**cells, "n": (0, 1, 0, 1)}), [("d", "hatch", "n")])

    def test_above_is_told_where_hatch_is_due_too(self):
        cells = {"a": (0, 0, 0, 0), "d": (0, 0, 1, 0), "e": (0, 0, 1, 1), "f": (0, 0, 1, 2)}
        planned = {name: cells[name] for name in "def"}
        self.assertEqual(off_between(cells, planned),
                         [("a", "goes", ""), ("d", "hatch", "a"), ("e", "above", "d"), ("f", "above", "e")])
        self.assertEqual(off_between(cells, {**planned, "d": (1, 0, 1, 0), "n": (0, 0, 1, 0)}),
                         [("a", "goes", ""), ("d", "moves", ""), ("e", "above", "d"), ("f", "above", "e")])

    def test_goes_and_moves_are_told_where_hatch_is_due_too(self):
        cells = {"a": (0, 0, 0, 0), "d": (0, 0, 1, 0), "e": (0, 1, 1, 0), "f": (0, 2, 1, 0)}
        self.assertEqual(off_between(cells, {"e": (0, 0, 1, 0), "f": (0, 2, 1, 0)}),
                         [("a", "goes", ""), ("d", "goes", ""), ("e", "moves", ""), ("f", "hatch", "a")])

    def test_all_stacks_of_the_deck(self):
        cells = {"a": (0, 1, 0, 0), "d": (0, 0, 1, 0), "e": (0, 1, 1, 0), "f": (0, 2, 1, 0), "g": (0, 2, 1, 1)}
        self.assertEqual(off_between(cells, {name: cells[name] for name in "defg"}),
                         [("a", "goes", "")] + [(name, "hatch", "a") for name in "def"] + [("g", "above", "f")])

    def test_the_hold_of_another_bay_does_not_count(self):
        for bay, other in ((0, 1), (1, 0)):
            cells = {"a": (bay, 0, 0, 0), "d": (other, 0, 1, 0)}
            self.assertEqual(off_between(cells, {"d": (other, 0, 1, 0)}), [("a", "goes", "")])
            self.assertEqual(off_between(cells, {**cells, "n": (bay, 1, 0, 0)}), [])
            self.assertEqual(off_between(cells, {"a": (bay, 1, 0, 0), "d": (other, 0, 1, 0)}), [("a", "moves", "")])

    def test_each_bay_by_itself(self):
        cells = {"a": (0, 0, 0, 0), "b": (1, 0, 0, 0), "d": (0, 0, 1, 0), "e": (1, 0, 1, 0)}
        self.assertEqual(off_between(cells, {"d": (0, 0, 1, 0), "e": (1, 0, 1, 0)}),
                         [("a", "goes", ""), ("d", "hatch", "a"), ("b", "goes", ""), ("e", "hatch", "b")])
        self.assertEqual(off_between(cells, {"d": (0, 0, 1, 0), "e": (1, 0, 1, 0), "b": (1, 0, 0, 0),
                                             "a": (1, 1, 0, 0)}),
                         [("a", "moves", ""), ("d", "hatch", "a"), ("e", "hatch", "a")])

    def test_the_deck_moves_nothing_in_the_hold(self):
        cells = {"a": (0, 0, 0, 0), "d": (0, 0, 1, 0), "e": (0, 1, 1, 0)}
        self.assertEqual(off_between(cells, {"a": (0, 0, 0, 0), "e": (0, 1, 1, 0)}), [("d", "goes", "")])
        self.assertEqual(off_between(cells, {**cells, "n": (0, 2, 1, 0)}), [])

    def test_told_in_the_order_of_cells_in_the_load(self):
        cells = {"f": (0, 2, 0, 0), "e": (0, 0, 1, 0), "d": (0, 0, 1, 1), "c": (1, 0, 0, 0), "b": (1, 1, 0, 0),
                 "a": (1, 0, 1, 0)}
        planned = {"a": (0, 0, 0, 0), "b": (0, 1, 0, 0), "e": (0, 0, 1, 0), "d": (0, 0, 1, 1)}
        self.assertEqual(off_between(cells, planned),
                         [("f", "goes", ""), ("e", "hatch", "f"), ("d", "above", "e"), ("c", "goes", ""),
                          ("b", "moves", ""), ("a", "moves", "")])


class Idle(unittest.TestCase):
    def idle_between(self, cells, planned):
        told = idle_lifts(load_of(cells), load_of(planned))
        self.assertIs(type(told), int)
        return told

    def test_none(self):
        self.assertEqual(self.idle_between({}, {}), 0)
        self.assertEqual(self.idle_between({"a": (0, 0, 0, 0)}, {}), 0)
        self.assertEqual(self.idle_between({"a": (0, 0, 0, 0), "b": (0, 0, 1, 0)}, {"a": (0, 0, 1, 0)}), 0)
        self.assertEqual(self.idle_between({"d": (0, 0, 1, 0)}, {"d": (0, 0, 1, 0), "a": (1, 0, 0, 0)}), 0)

    def test_above(self):
        cells = {"a": (0, 1, 0, 0), "b": (0, 1, 0, 1), "c": (0, 1, 0, 2)}
        self.assertEqual(self.idle_between(cells, {"n": (0, 1, 0, 0), "b": (0, 1, 0, 1)}), 2)
        self.assertEqual(self.idle_between(cells, {"n": (0, 1, 0, 0), "b": (0, 1, 0, 1), "c": (0, 1, 0, 2)}), 4)

    def test_hatch(self):
        cells = {"a": (0, 1, 0, 0), "d": (0, 0, 1, 0), "e": (0, 2, 1, 0)}
        self.assertEqual(self.idle_between(cells, {"d": (0, 0, 1, 0)}), 2)
        self.assertEqual(self.idle_between(cells, {"d": (0, 0, 1, 0), "e": (0, 2, 1, 0)}), 4)
        self.assertEqual(self.idle_between(cells, {**cells, "n": (0, 0, 0, 0)}), 4)

    def test_above_and_hatch(self):
        cells = {"a": (0, 1, 0, 0), "b": (0, 1, 0, 1), "d": (0, 0, 1, 0), "e": (0, 0, 1, 1), "f": (1, 0, 1, 0)}
        planned = {**{name: cell for name, cell in cells.items() if name != "a"}, "n": (0, 1, 0, 0)}
        self.assertEqual(self.idle_between(cells, planned), 6)


class Rows(unittest.TestCase):
    def check(self, load, plan):
        """All that [20] says of a row, and the number of lifts that [21] says."""
        row, told = lifts_to(load, plan), must_off(load, plan)
        self.assertIsInstance(row, list)
        self.assertEqual(after_lifts(load, row).placed, plan.placed)
        self.assertEqual([lift[0] for lift in row], sorted(lift[0] for lift in row))
        offs, ons = [lift for lift in row if lift[0] == "off"], [lift for lift in row if lift[0] == "on"]
        off_names, on_names = [box_at(load, lift[1])[0] for lift in offs], [lift[2][0] for lift in ons]
        self.assertEqual(sorted(off_names), sorted(name for name, why, other in told))
        due_on = [one[0] for cell, one in plan.placed if one[0] in off_names or cell_of(load, one[0]) is None]
        self.assertEqual(sorted(on_names), sorted(due_on))
        self.assertEqual(idle_lifts(load, plan), 2 * sum(why in ("above", "hatch") for name, why, other in told))
        if sound(load) and sound(plan):
            self.assertTrue(sound_row(load, row))
        return row

    def test_by_hand(self):
        cells = {"a": (0, 1, 0, 0), "b": (0, 1, 0, 1), "d": (0, 0, 1, 0), "e": (0, 0, 1, 1), "f": (1, 0, 1, 0)}
        load = load_of(cells)
        plan = load_of({**{name: cell for name, cell in cells.items() if name != "a"}, "n": (0, 1, 0, 0)})
        # Hatch and stacks leave no choice here.
        self.assertEqual(self.check(load, plan), [
            ("off", (0, 0, 1, 1)), ("off", (0, 0, 1, 0)), ("off", (0, 1, 0, 1)), ("off", (0, 1, 0, 0)),
            ("on", (0, 1, 0, 0), box("n")), ("on", (0, 1, 0, 1), box("b")), ("on", (0, 0, 1, 0), box("d")),
            ("on", (0, 0, 1, 1), box("e"))])

    def test_the_empty_load_and_the_full_one(self):
        ship = plain_ship()
        names = ["".join(letters) for letters in itertools.product("abcd", repeat=3)]
        full = load_of(dict(zip(names, cells_of(ship))), ship)
        empty = Load(ship, [])
        self.assertEqual(len(full.placed), 36)
        self.assertEqual(sorted(self.check(empty, full)), sorted(("on", cell, one) for cell, one in full.placed))
        self.assertEqual(len(self.check(full, empty)), 36)
        self.assertEqual(must_off(full, empty), [(one[0], "goes", "") for cell, one in full.placed])
        self.assertEqual((self.check(full, full), self.check(empty, empty)), ([], []))

    def test_a_full_load_turned_about(self):
        ship = plain_ship()
        names = ["".join(letters) for letters in itertools.product("abcd", repeat=3)][:36]
        row = self.check(load_of(dict(zip(names, cells_of(ship))), ship),
                         load_of(dict(zip(reversed(names), cells_of(ship))), ship))
        self.assertEqual(len(row), 72)

    def test_the_boxes_that_go_on_are_those_of_the_plan(self):
        for changed in CHANGED:
            load = Load(plain_ship(), [((0, 0, 0, 0), AMBER), ((0, 0, 0, 1), box("b")), ((0, 1, 1, 0), box("d"))])
            plan = Load(plain_ship(), [((0, 0, 0, 0), changed), ((0, 0, 0, 1), box("b")), ((0, 1, 1, 0), box("d"))])
            self.assertIn(("on", (0, 0, 0, 0), changed), self.check(load, plan))

    def test_neither_rules_nor_moments_are_asked(self):
        nothing = part(2, 0, 0, (), 0)
        ship = Ship(*ship_args([[(nothing, nothing)]], [("silk", "silk")], 0, 0))
        heavy = [box(name, GREAT, GREAT, 1, "silk", GREAT) for name in ("one", "two")]
        load = Load(ship, [((0, 0, 0, 0), heavy[0])])
        plan = Load(ship, [((0, 0, 1, 0), heavy[0]), ((0, 0, 0, 0), heavy[1])])
        self.assertEqual(len(self.check(load, plan)), 3)

    def test_a_plan_for_another_ship_that_is_alike(self):
        load, plan = load_of({"a": (0, 0, 0, 0)}, plain_ship()), load_of({"a": (0, 0, 0, 0)}, plain_ship())
        self.assertEqual((must_off(load, plan), lifts_to(load, plan)), ([], []))

    def test_loads_on_the_way_are_sound(self):
        """Full parts, and foes that change sides: any other order than off and then on would break a rule."""
        tight = part(2, 10, 6, (0,), 15)
        ship = Ship(*ship_args([[(tight, tight)] * 2], [("tea", "oil")]))
        cells = [(0, 0, 0, 0), (0, 0, 0, 1), (0, 1, 1, 0), (0, 1, 1, 1)]
        load = Load(ship, [(cell, box(name, sort="tea")) for cell, name in zip(cells, "abcd")])
        plan = Load(ship, [(cell, box(name, sort="oil", cold=1 - cell[3])) for cell, name in zip(cells, "abcd")])
        self.assertTrue(sound(load) and sound(plan))
        self.assertEqual(len(self.check(load, plan)), 8)

    def test_by_chance(self):
        words = set()
        for load, plan in pairs_by_chance(400):
            self.check(load, plan)
            told = must_off(load, plan)
            words.update(why for name, why, other in told)
            self.assertEqual(told, off_by_words(load, plan))
        self.assertEqual(words, {"goes", "moves", "above", "hatch"})

    def test_at_the_bounds(self):
        """Eight bays of eight stacks of parts of nine cells, a hundred boxes, numbers of sixty figures."""
        ship = great_ship()
        boxes = [great_box(number) for number in range(100)]
        lower = [(bay, stack, 0, tier) for bay in range(8) for stack in range(2) for tier in range(5)]
        upper = [(bay, stack, 1, 0) for bay in range(8) for stack in range(8)]
        load = Load(ship, list(zip(lower + upper, boxes))[:100])
        plan = Load(ship, list(zip(lower + upper, boxes[:2] + [boxes[99]] + boxes[3:99])))
        self.assertEqual(len(load.placed), 100)
        self.check(load, plan)
        self.check(load, Load(ship, list(zip(reversed(cells_of(ship)[:100]), boxes))))


class Fewest(unittest.TestCase):
    def lifts_from(self, load, boxes):
        """The loads that one lift leads to."""
        lifts = [("off", cell) for cell in cells_of(load.ship)]
        lifts += [("on", cell, one) for cell in cells_of(load.ship) for one in boxes]
        behind = []
        for lift in lifts:
            try:
                behind.append(after_lift(load, lift).placed)
            except ValueError:
                continue
        return behind

    def steps_from(self, start, behind):
        """The fewest lifts to each load, by trying all rows."""
        steps, ends = {start: 0}, [start]
        while ends:
            further = []
            for here in ends:
                for there in behind[here]:
                    if there not in steps:
                        steps[there] = steps[here] + 1
                        further.append(there)
            ends = further
        return steps

    def test_no_row_is_shorter(self):
        ship = small_ship()
        boxes = [box("a"), box("b"), box("b", 6), box("c")]
        loads = all_loads(ship, boxes)
        behind = {load.placed: self.lifts_from(load, boxes) for load in loads}
        self.assertGreater(len(loads), 150)
        for load in loads:
            steps = self.steps_from(load.placed, behind)
            for plan in loads:
                self.assertEqual(len(lifts_to(load, plan)), steps[plan.placed], (load.placed, plan.placed))
                self.assertEqual(must_off(load, plan), off_by_words(load, plan))

    def test_by_hand(self):
        load = load_of({"a": (0, 0, 0, 0), "b": (0, 0, 0, 1), "d": (0, 1, 1, 0)})
        plan = load_of({"b": (0, 0, 0, 0), "d": (0, 1, 1, 0)})
        row = [("off", (0, 1, 1, 0)), ("off", (0, 0, 0, 1)), ("off", (0, 0, 0, 0)), ("on", (0, 0, 0, 0), box("b")),
               ("on", (0, 1, 1, 0), box("d"))]
        self.assertEqual(after_lifts(load, row).placed, plan.placed)
        self.assertEqual(len(lifts_to(load, plan)), 5)
        longer = [("off", (0, 1, 1, 0)), ("on", (1, 1, 1, 0), box("d")), ("off", (1, 1, 1, 0))] + row[1:]
        self.assertEqual(after_lifts(load, longer).placed, plan.placed)
        self.assertLess(len(lifts_to(load, plan)), len(longer))


if __name__ == "__main__":
    unittest.main()
