"""[22] to [24]: free places, and the rules that bar a box there."""

import itertools
import random
import unittest

from samples import (GREAT, NOT_CELLS, bar_by_words, box, chance_ship, great_box, great_ship, named, part, plain_ship,
                     ship_args, uneven_ship_args)
from stowhold.errors import NoPlace, StowError, Twice
from stowhold.lifts import after_lift
from stowhold.loads import Load
from stowhold.places import bar_at, bars_of, free_places
from stowhold.rules import Apart, faults_of
from stowhold.ships import Ship, cells_of, parts_of

NEW = box("new", 6, 2, 0, "silk", 3)


def wide_part(cells=3):
    """A part that bears whatever the tests put there."""
    return part(cells, GREAT, GREAT, tuple(range(cells)), GREAT)


def load_at(ship, *cells):
    return Load(ship, [(cell, box(named(at))) for at, cell in enumerate(cells)])


def tiers(name_part, count):
    return [name_part + (tier,) for tier in range(count)]


def chance_box(chance, name):
    return box(name, chance.randrange(5), chance.randrange(5), chance.randrange(4) // 3, chance.choice(["tea", "oil"]))


def chance_load(chance):
    """A load that may be unsound; one deck in two is empty."""
    ship = chance_ship(chance, 3, chance.choice([[], [("tea", "oil")], [("oil", "tea")], [("tea", "tea")]]))
    cells = []
    for bay in range(2):
        decks = chance.choice([(0,), (0, 1)])
        for name_part in parts_of(ship):
            if name_part[0] == bay and name_part[2] in decks:
                here = [cell for cell in cells_of(ship) if cell[:3] == name_part]
                cells += here[:chance.randrange(len(here) + 1)]
    return Load(ship, [(cell, chance_box(chance, named(at))) for at, cell in enumerate(cells[:26])])


class FreePlaces(unittest.TestCase):
    def test_of_the_empty_load(self):
        ship = plain_ship()
        told = free_places(Load(ship, []))
        self.assertIsInstance(told, list)
        self.assertEqual(told, [name_part + (0,) for name_part in parts_of(ship)])

    def test_parts_without_cells_have_none(self):
        ship = Ship(*uneven_ship_args())
        self.assertEqual(free_places(Load(ship, [])), [
            (0, 0, 0, 0), (0, 0, 1, 0), (1, 0, 0, 0), (1, 2, 0, 0), (1, 1, 1, 0), (1, 2, 1, 0), (2, 1, 0, 0),
            (2, 0, 1, 0), (2, 1, 1, 0)])

    def test_parts_with_some_boxes_and_full_ones(self):
        ship = plain_ship()
        load = load_at(ship, *tiers((0, 0, 0), 3), *tiers((0, 1, 0), 2), *tiers((1, 2, 0), 1))
        self.assertEqual(free_places(load), [
            (0, 1, 0, 2), (0, 2, 0, 0), (0, 0, 1, 0), (0, 1, 1, 0), (0, 2, 1, 0),
            (1, 0, 0, 0), (1, 1, 0, 0), (1, 2, 0, 1), (1, 0, 1, 0), (1, 1, 1, 0), (1, 2, 1, 0)])

    def test_boxes_on_deck(self):
        ship = plain_ship()
        load = load_at(ship, *tiers((0, 0, 1), 1), *tiers((0, 1, 1), 3), *tiers((0, 2, 1), 2))
        self.assertEqual(free_places(load)[:2], [(0, 0, 1, 1), (0, 2, 1, 2)])

    def test_a_box_on_the_deck_shuts_the_whole_hold_of_its_bay_alone(self):
        ship = plain_ship()
        for bay, stack in itertools.product(range(2), range(3)):
            told = free_places(load_at(ship, (bay, stack, 1, 0)))
            self.assertEqual([cell for cell in told if cell[0] == bay],
                             [(bay, other, 1, 1 if other == stack else 0) for other in range(3)])
            self.assertEqual([cell for cell in told if cell[0] != bay],
                             [(1 - bay, other, deck, 0) for deck in (0, 1) for other in range(3)])

    def test_a_full_deck_shuts_the_hold_too(self):
        ship = Ship(*ship_args([[(part(1), part(1))]]))
        self.assertEqual(free_places(load_at(ship, (0, 0, 1, 0))), [])

    def test_boxes_in_the_hold_shut_nothing(self):
        ship = Ship(*ship_args([[(part(1), part(1)), (part(2), part(2))]]))
        self.assertEqual(free_places(load_at(ship, (0, 0, 0, 0), (0, 1, 0, 0))),
                         [(0, 1, 0, 1), (0, 0, 1, 0), (0, 1, 1, 0)])

    def test_none(self):
        ship = Ship(*ship_args([[(part(2), part(1))], [(part(0), part(0))]]))
        self.assertEqual(free_places(load_at(ship, *cells_of(ship))), [])
        self.assertEqual(free_places(Load(Ship(*ship_args([[(part(0), part(0))]])), [])), [])

    def test_neither_rules_nor_moments_are_asked(self):
        nothing = part(1, 0, 0, (), 0)
        ship = Ship(*ship_args([[(nothing, nothing)]], (), 0, 0))
        self.assertEqual(free_places(Load(ship, [])), [(0, 0, 0, 0), (0, 0, 1, 0)])

    def test_they_are_the_cells_where_a_box_can_be_put(self):
        chance = random.Random(22)
        for at in range(40):
            load = chance_load(chance)
            can = []
            for cell in cells_of(load.ship):
                try:
                    after_lift(load, ("on", cell, NEW))
                except StowError:
                    continue
                can.append(cell)
            self.assertEqual(free_places(load), can)


class Bars(unittest.TestCase):
    def bar(self, here, one, placed=(), cell=(0, 0, 0, 0), foes=()):
        """The bar in a ship whose stacks have three parts like this one in the hold and three on deck."""
        ship = Ship(*ship_args([[(here, here)] * 3] * 2, foes))
        told = bar_at(Load(ship, placed), cell, one)
        self.assertEqual(told, bar_by_words(Load(ship, placed), cell, one))
        return told

    def test_strength(self):
        for deck in (0, 1):
            cell, beneath = (0, 1, deck, 1), [((0, 1, deck, 0), box("a", 7))]
            self.assertIsNone(self.bar(part(strength=10), box("b", 3), beneath, cell))
            self.assertEqual(self.bar(part(strength=10), box("b", 4), beneath, cell), "strength")
            self.assertIsNone(self.bar(part(strength=10), box("b", 10), cell=(0, 1, deck, 0)))
            self.assertEqual(self.bar(part(strength=10), box("b", 11), cell=(0, 1, deck, 0)), "strength")

    def test_height(self):
        for deck in (0, 1):
            cell, beneath = (1, 0, deck, 1), [((1, 0, deck, 0), box("a", 0, 7))]
            self.assertIsNone(self.bar(part(height=10), box("b", 0, 3), beneath, cell))
            self.assertEqual(self.bar(part(height=10), box("b", 0, 4), beneath, cell), "height")
            self.assertEqual(self.bar(part(height=10), box("b", 0, 11), cell=(1, 0, deck, 0)), "height")

    def test_cold(self):
        for deck in (0, 1):
            cell, beneath = (0, 0, deck, 1), [((0, 0, deck, 0), box("a"))]
            self.assertIsNone(self.bar(part(plugs=[1]), box("b", cold=1), beneath, cell))
            self.assertEqual(self.bar(part(plugs=[0, 2]), box("b", cold=1), beneath, cell), "cold")
            self.assertIsNone(self.bar(part(), box("b"), beneath, cell))

    def test_apart(self):
        foes = [("tea", "oil")]
        for deck, own, other in ((0, "tea", "oil"), (0, "oil", "tea"), (1, "tea", "oil"), (1, "oil", "tea")):
            near = [((0, 1, deck, 0), box("a", sort=other))]
            for cell in ((0, 0, deck, 0), (0, 2, deck, 0), (0, 1, deck, 1)):
                self.assertEqual(self.bar(part(), box("b", sort=own), near, cell, foes), "apart")
                self.assertIsNone(self.bar(part(), box("b", sort=other), near, cell, foes))
                self.assertIsNone(self.bar(part(), box("b", sort="silk"), near, cell, foes))
        for cell in ((0, 2, 0, 0), (1, 0, 0, 0), (0, 0, 1, 0)):
            self.assertIsNone(self.bar(part(), box("b", sort="oil"), [((0, 0, 0, 0), box("a"))], cell, foes))

    def test_apart_across_tiers(self):
        placed = [((0, 0, 0, 0), box("a", sort="silk")), ((0, 1, 0, 0), box("b", sort="tea"))]
        self.assertEqual(self.bar(part(), box("c", sort="oil"), placed, (0, 0, 0, 1), [("oil", "tea")]), "apart")
        placed.append(((0, 0, 0, 1), box("d", sort="silk")))
        self.assertIsNone(self.bar(part(), box("c", sort="oil"), placed, (0, 0, 0, 2), [("oil", "tea")]))

    def test_a_sort_that_is_its_own_foe(self):
        near = [((0, 1, 0, 0), box("a"))]
        self.assertEqual(self.bar(part(), box("b"), near, foes=[("tea", "tea")]), "apart")
        self.assertIsNone(self.bar(part(), box("b"), foes=[("tea", "tea")]))

    def test_apart_is_broken_at_another_cell_only_since_the_box_stands_there(self):
        ship = Ship(*ship_args([[(part(), part())] * 2], [("tea", "oil")]))
        load = Load(ship, [((0, 0, 0, 0), box("a"))])
        self.assertIs(Apart().broken(load, (0, 0, 0, 0)), False)
        behind = after_lift(load, ("on", (0, 1, 0, 0), box("b", sort="oil")))
        self.assertIs(Apart().broken(behind, (0, 0, 0, 0)), True)
        self.assertEqual(bar_at(load, (0, 1, 0, 0), box("b", sort="oil")), "apart")

    def test_lash(self):
        cell, beneath = (0, 2, 1, 1), [((0, 2, 1, 0), box("a", 4))]
        self.assertIsNone(self.bar(part(lash=10), box("b", 3), beneath, cell))
        self.assertEqual(self.bar(part(lash=9), box("b", 3), beneath, cell), "lash")
        self.assertEqual(self.bar(part(lash=10), box("b", 11), cell=(0, 2, 1, 0)), "lash")
        self.assertIsNone(self.bar(part(lash=0), box("b", 11), cell=(0, 2, 0, 0)))

    def test_the_first_of_several(self):
        words = ["strength", "height", "cold", "apart", "lash"]
        for broken in itertools.product((True, False), repeat=5):
            here = part(3, 0 if broken[0] else 99, 0 if broken[1] else 99, [] if broken[2] else [0],
                        0 if broken[4] else 99)
            foes = [("tea", "oil")] if broken[3] else []
            near = [((0, 1, 1, 0), box("a", 0, 0, sort="oil"))]
            due = [word for word, is_broken in zip(words, broken) if is_broken] + [None]
            self.assertEqual(self.bar(here, box("b", cold=1), near, (0, 0, 1, 0), foes), due[0])

    def test_none(self):
        for name_part in parts_of(plain_ship()):
            self.assertIsNone(bar_at(Load(plain_ship(), []), name_part + (0,), NEW))

    def test_moments_are_not_asked(self):
        ship = Ship(*ship_args([[(part(), part())] * 3] * 3, (), 0, 0))
        self.assertIsNone(bar_at(Load(ship, []), (2, 2, 0, 0), NEW))

    def test_a_rule_that_is_broken_elsewhere_is_no_bar(self):
        tight, tight_deck = part(3, 1, 1, (), 1), part(3, 99, 99, (), 1)
        ship = Ship(*ship_args([[(tight, tight_deck), (wide_part(), wide_part()), (wide_part(), wide_part())]] * 2,
                               [("tea", "oil")]))
        placed = [((0, 0, 0, 0), box("a", cold=1)), ((0, 0, 1, 0), box("b")), ((0, 1, 1, 0), box("c", sort="oil"))]
        load = Load(ship, placed)
        self.assertEqual({word for word, cell in faults_of(load)}, {"strength", "height", "cold", "apart", "lash"})
        for cell in ((0, 2, 1, 0), (1, 1, 0, 0), (1, 2, 1, 0)):
            self.assertIsNone(bar_at(load, cell, box("d", cold=1, sort="silk")))

    def test_a_rule_that_is_broken_near_by_or_beneath_is_no_bar(self):
        placed = [((0, 0, 0, 0), box("a", cold=1)), ((0, 1, 0, 0), box("b", sort="oil", cold=1))]
        foes = [("tea", "oil")]
        self.assertIsNone(self.bar(part(), box("c", sort="silk"), placed, (0, 0, 0, 1), foes))
        self.assertIsNone(self.bar(part(), box("c", sort="silk"), placed, (0, 2, 0, 0), foes))
        self.assertEqual(self.bar(part(), box("c", sort="tea"), placed, (0, 2, 0, 0), foes), "apart")

    def test_a_box_of_no_weight_upon_a_part_that_bears_too_much(self):
        # The rule is broken beneath already, but at the box's own cell only with it.
        for deck in (0, 1):
            beneath = [((0, 0, deck, 0), box("a", 11, 11))]
            self.assertEqual(self.bar(part(strength=10), box("b", 0, 0), beneath, (0, 0, deck, 1)), "strength")
            self.assertEqual(self.bar(part(height=10), box("b", 0, 0), beneath, (0, 0, deck, 1)), "height")
        self.assertEqual(self.bar(part(lash=10), box("b", 0, 0), beneath, (0, 0, 1, 1)), "lash")

    def test_a_name_that_was_taken_off_again(self):
        load = after_lift(load_at(plain_ship(), (0, 0, 0, 0)), ("off", (0, 0, 0, 0)))
        self.assertIsNone(bar_at(load, (0, 0, 0, 0), box(named(0))))

    def test_by_chance(self):
        chance, words = random.Random(23), set()
        for at in range(60):
            load = chance_load(chance)
            one = chance_box(chance, "new")
            told = bars_of(load, one)
            self.assertEqual([cell for cell, word in told], free_places(load))
            for cell, word in told:
                self.assertEqual(word, bar_by_words(load, cell, one))
                self.assertEqual(word, bar_at(load, cell, one))
                words.add(word)
        self.assertEqual(words, {"strength", "height", "cold", "apart", "lash", None})


class Refused(unittest.TestCase):
    def test_no_place_where_a_box_stands(self):
        load = load_at(plain_ship(), *tiers((0, 0, 0), 2), *tiers((1, 1, 1), 3))
        for cell in ((0, 0, 0, 0), (0, 0, 0, 1), (1, 1, 1, 0), (1, 1, 1, 2)):
            self.assertRaises(NoPlace, bar_at, load, cell, NEW)

    def test_no_place_above_the_lowest_empty_cell(self):
        load = load_at(plain_ship(), (0, 0, 0, 0))
        for cell in ((0, 0, 0, 2), (0, 1, 0, 1), (0, 0, 1, 1), (1, 2, 1, 2)):
            self.assertRaises(NoPlace, bar_at, load, cell, NEW)

    def test_no_place_beneath_a_shut_hatch(self):
        for stack in range(3):
            load = load_at(plain_ship(), (0, 0, 0, 0), (0, stack, 1, 0))
            for cell in ((0, 0, 0, 1), (0, 1, 0, 0), (0, 2, 0, 0)):
                self.assertRaises(NoPlace, bar_at, load, cell, NEW)
            self.assertIsNone(bar_at(load, (1, 0, 0, 0), NEW))

    def test_no_place_out_of_the_ship(self):
        load = Load(Ship(*uneven_ship_args()), [])
        for cell in NOT_CELLS:
            self.assertRaises(NoPlace, bar_at, load, cell, NEW)

    def test_no_place_beyond_a_full_part(self):
        load = load_at(plain_ship(), *tiers((0, 0, 0), 3), *tiers((1, 1, 1), 3))
        for cell in ((0, 0, 0, 3), (1, 1, 1, 3)):
            self.assertRaises(NoPlace, bar_at, load, cell, NEW)

    def test_no_place_ahead_of_twice(self):
        load = load_at(plain_ship(), (0, 0, 0, 0), (1, 0, 1, 0))
        for cell in ((0, 0, 0, 0), (0, 0, 0, 2), (1, 0, 0, 0), (9, 0, 0, 0), (0, 0, 0, -1)):
            self.assertRaises(NoPlace, bar_at, load, cell, box(named(0)))

    def test_twice(self):
        load = load_at(plain_ship(), (0, 0, 0, 0), (1, 0, 1, 0))
        for name in (named(0), named(1)):
            for one in (box(name), box(name, 99, 99, 1, "oil", 9)):
                for cell in free_places(load):
                    self.assertRaises(Twice, bar_at, load, cell, one)
                self.assertRaises(Twice, bars_of, load, one)

    def test_twice_where_there_is_no_free_place(self):
        ship = Ship(*ship_args([[(part(1), part(1))]]))
        load = load_at(ship, (0, 0, 0, 0), (0, 0, 1, 0))
        self.assertRaises(Twice, bars_of, load, box(named(0)))
        self.assertRaises(Twice, bars_of, load, box(named(1)))
        self.assertEqual(bars_of(load, NEW), [])


class AllBars(unittest.TestCase):
    def test_each_free_place_in_order(self):
        ship = Ship(*ship_args([[(part(2, 10), part(2, 99, 1)), (part(2, plugs=[1]), part(2, lash=5))],
                                [(part(0), part(1, plugs=[0]))]], [("silk", "tea")]))
        load = load_at(ship, (0, 0, 0, 0), (1, 0, 1, 0))
        told = bars_of(load, box("new", 6, 2, 1, "silk", 3))
        self.assertIsInstance(told, list)
        self.assertEqual(told, [((0, 0, 0, 1), "strength"), ((0, 1, 0, 0), "cold"), ((0, 0, 1, 0), "height"),
                                ((0, 1, 1, 0), "cold")])
        self.assertEqual(bars_of(load, box("new", 6, 2, 0, "silk", 3)),
                         [((0, 0, 0, 1), "strength"), ((0, 1, 0, 0), "apart"), ((0, 0, 1, 0), "height"),
                          ((0, 1, 1, 0), "lash")])
        self.assertEqual(bars_of(load, box("new", 5, 1)), [(cell, None) for cell in free_places(load)])
        for pair in told:
            self.assertIsInstance(pair, tuple)

    def test_the_empty_list(self):
        full = Ship(*ship_args([[(part(1), part(1))]]))
        self.assertEqual(bars_of(load_at(full, (0, 0, 0, 0), (0, 0, 1, 0)), NEW), [])
        self.assertEqual(bars_of(Load(Ship(*ship_args([[(part(0), part(0))]])), []), NEW), [])

    def test_at_the_bounds(self):
        """Eight bays of eight stacks of parts of nine cells, a hundred boxes, numbers of sixty figures."""
        ship = great_ship()
        placed = [(cell, great_box(at, 1, 1)) for at, cell in enumerate(cells_of(ship)[:99])]
        load = Load(ship, placed + [((7, 7, 1, 0), great_box(99))])
        # Eight full parts in the hold of the first bay and three on its deck, and eight beneath the last bay's deck.
        self.assertEqual(len(free_places(load)), 128 - 11 - 8)
        told = dict(bars_of(load, great_box(100)))
        self.assertEqual((told[(1, 3, 0, 0)], told[(1, 2, 1, 0)]), (None, None))
        self.assertEqual(told[(7, 7, 1, 1)], "strength")


if __name__ == "__main__":
    unittest.main()
