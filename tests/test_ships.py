"""[4] to [7]: parts, stacks, bays, ships and cells."""

import unittest

from samples import GREAT, UNEVEN_CELLS, UNEVEN_PARTS, part, ship_args, uneven_ship_args
from stowhold.errors import NoShip, OutOfShip
from stowhold.ships import Ship, cells_of, has_cell, part_at, parts_of

PLACES = [(bay, stack, deck) for bay in (0, 1, 2) for stack in (0, 1, 2) for deck in (0, 1)]


def args_with(odd, place):
    """A ship of three bays of three stacks, all parts alike but the one at the place."""
    def at(bay, stack, deck):
        return odd if (bay, stack, deck) == place else part()
    return ship_args([[(at(bay, stack, 0), at(bay, stack, 1)) for stack in range(3)] for bay in range(3)])


def taken_part(told):
    return told[:3] + (tuple(told[3]),) + told[4:]


class ShipsTaken(unittest.TestCase):
    def test_fields_as_handed_in_with_tuples_for_lists(self):
        hold, deck = (4, 30, 20, [0, 2], 9), (2, 25, 15, [1], 8)
        ship = Ship([(-3, [(-2, hold, deck), (2, deck, hold)]), (5, [(0, deck, deck)])],
                    [("fire", "oil"), ("tea", "oil")], 70, 60)
        hold, deck = (4, 30, 20, (0, 2), 9), (2, 25, 15, (1,), 8)
        self.assertEqual(ship.bays, ((-3, ((-2, hold, deck), (2, deck, hold))), (5, ((0, deck, deck),))))
        self.assertEqual(ship.foes, (("fire", "oil"), ("tea", "oil")))
        self.assertEqual((ship.trim, ship.heel), (70, 60))

    def test_stacks_and_plugs_as_tuples(self):
        hold, deck = (4, 30, 20, (1, 3), 9), (2, 25, 15, (), 8)
        ship = Ship([(1, ((2, hold, deck), (3, deck, hold)))], [], 1, 2)
        self.assertEqual(ship.bays, ((1, ((2, hold, deck), (3, deck, hold))),))

    def test_least_ship(self):
        nothing = (0, 0, 0, [], 0)
        ship = Ship([(0, [(0, nothing, nothing)])], [], 0, 0)
        nothing = (0, 0, 0, (), 0)
        self.assertEqual(ship.bays, ((0, ((0, nothing, nothing),)),))
        self.assertEqual((ship.foes, ship.trim, ship.heel), ((), 0, 0))

    def test_edges_of_a_part_at_every_place(self):
        edges = [part(0), part(9), part(1), part(strength=0), part(height=0), part(lash=0), part(plugs=[0]),
                 part(plugs=[2]), part(9, plugs=[8]), part(9, plugs=list(range(9))), part(1, plugs=[0]),
                 part(3, plugs=(0, 2)), part(0, plugs=[]), part(strength=GREAT, height=GREAT, lash=GREAT)]
        for place in PLACES:
            for edge in edges:
                with self.subTest(place=place, part=edge):
                    self.assertEqual(part_at(Ship(*args_with(edge, place)), place), taken_part(edge))

    def test_each_bound_alone_may_be_nought(self):
        bays = ship_args([[(part(), part())]])[0]
        for trim, heel in ((0, 1), (1, 0), (0, 0), (GREAT, 0), (0, GREAT)):
            ship = Ship(bays, [], trim, heel)
            self.assertEqual((ship.trim, ship.heel), (trim, heel))

    def test_great_arms_on_both_sides(self):
        ship = Ship([(-GREAT, [(-GREAT, part(), part()), (GREAT, part(), part())]), (GREAT, [(0, part(), part())])],
                    [], GREAT, GREAT)
        self.assertEqual([bay[0] for bay in ship.bays], [-GREAT, GREAT])
        self.assertEqual([stack[0] for stack in ship.bays[0][1]], [-GREAT, GREAT])

    def test_foes_as_handed_in(self):
        bays = ship_args([[(part(), part())]])[0]
        for foes in ([], [("oil", "oil")], [("tea", "oil"), ("oil", "tea")], [("b", "a"), ("a", "b"), ("b", "a")]):
            self.assertEqual(Ship(bays, foes, 0, 0).foes, tuple(foes))

    def test_equal_arms_and_any_order_of_them(self):
        ship = Ship([(4, [(2, part(), part()), (2, part(), part())]), (-4, [(1, part(), part())])], [], 0, 0)
        self.assertEqual([bay[0] for bay in ship.bays], [4, -4])

    def test_nothing_is_refused_for_the_bounds_of_what_is_handed_in(self):
        stack = (10 ** 61, part(strength=10 ** 61), part(lash=10 ** 61))
        ship = Ship([(-10 ** 61, [stack] * 9)] * 9, [("averylongsortname", "a")], 10 ** 61, 10 ** 61)
        self.assertEqual(len(parts_of(ship)), 162)


class ShipsRefused(unittest.TestCase):
    def refused(self, *args):
        with self.assertRaises(NoShip):
            Ship(*args)

    def test_no_bay(self):
        self.refused([], [], 10, 10)

    def test_a_bay_without_a_stack(self):
        good = (0, [(0, part(), part())])
        for empty in ([], ()):
            for at in range(3):
                bays = [good, good, good]
                bays[at] = (0, empty)
                with self.subTest(empty=empty, at=at):
                    self.refused(bays, [], 10, 10)
        self.refused([(0, [])], [], 10, 10)

    def test_a_bound_below_nought(self):
        bays = ship_args([[(part(), part())]])[0]
        for bounds in ((-1, 10), (10, -1), (-1, -1), (-GREAT, 0), (0, -GREAT)):
            with self.subTest(bounds):
                self.refused(bays, [], *bounds)

    def test_each_cause_in_a_part_at_every_place(self):
        causes = [part(10), part(-1), part(GREAT), part(-GREAT), part(strength=-1), part(height=-1), part(lash=-1),
                  part(strength=-GREAT), part(height=-GREAT), part(lash=-GREAT)]
        for place in PLACES:
            for cause in causes:
                with self.subTest(place=place, part=cause):
                    self.refused(*args_with(cause, place))

    def test_each_fault_of_plugs_at_every_place(self):
        faults = [[1, 0], [0, 2, 1], [0, 0], [0, 1, 1], [-1], [-1, 0], [3], [0, 3], [4], [GREAT], [-GREAT]]
        causes = [part(3, plugs=plugs) for plugs in faults] + [part(3, plugs=tuple(plugs)) for plugs in faults]
        causes += [part(0, plugs=[0]), part(9, plugs=[9]), part(9, plugs=[8, 9]), part(9, plugs=[7, 8, 8])]
        for place in PLACES:
            for cause in causes:
                with self.subTest(place=place, part=cause):
                    self.refused(*args_with(cause, place))


class PartsAndCells(unittest.TestCase):
    def setUp(self):
        self.ship = Ship(*uneven_ship_args())

    def test_order_of_parts(self):
        self.assertEqual(parts_of(self.ship), UNEVEN_PARTS)

    def test_order_of_cells(self):
        self.assertEqual(cells_of(self.ship), UNEVEN_CELLS)

    def test_just_these_are_cells_of_the_ship(self):
        around = [(bay, stack, deck, tier) for bay in range(-4, 5) for stack in range(-4, 5)
                  for deck in range(-3, 4) for tier in range(-4, 5)]
        self.assertEqual({cell for cell in around if has_cell(self.ship, cell)}, set(UNEVEN_CELLS))

    def test_kinds(self):
        for told in (parts_of(self.ship), cells_of(self.ship)):
            self.assertIs(type(told), list)
            self.assertEqual({type(one) for one in told}, {tuple})

    def test_a_ship_without_cells(self):
        ship = Ship(*ship_args([[(part(0), part(0))], [(part(0), part(0))]]))
        self.assertEqual(parts_of(ship), [(0, 0, 0), (0, 0, 1), (1, 0, 0), (1, 0, 1)])
        self.assertEqual(cells_of(ship), [])

    def test_the_fullest_ship(self):
        ship = Ship(*ship_args([[(part(9), part(9))] * 8] * 8))
        told = [(bay, stack, deck, tier) for bay in range(8) for deck in range(2)
                for stack in range(8) for tier in range(9)]
        self.assertEqual(cells_of(ship), told)

    def test_part_at_each_part(self):
        told = {name: part_at(self.ship, name) for name in UNEVEN_PARTS}
        for bay, (arm, stacks) in enumerate(uneven_ship_args()[0]):
            for stack, (side, hold, deck) in enumerate(stacks):
                self.assertEqual(told[(bay, stack, 0)], hold)
                self.assertEqual(told[(bay, stack, 1)], deck)
        self.assertEqual(len(set(told.values())), len(UNEVEN_PARTS))

    def test_part_at_tells_a_tuple_with_its_plugs_as_one(self):
        ship = Ship(*ship_args([[(part(plugs=[0, 2]), part(plugs=[1]))]]))
        self.assertEqual(part_at(ship, (0, 0, 0)), (3, 50, 40, (0, 2), 70))
        self.assertEqual(part_at(ship, (0, 0, 1)), (3, 50, 40, (1,), 70))

    def test_no_part_of_that_name(self):
        strange = [(3, 0, 0), (-1, 0, 0), (-3, 0, 0), (GREAT, 0, 0), (-GREAT, 0, 0),
                   (0, 1, 0), (0, 2, 1), (1, 3, 0), (2, 2, 1), (0, -1, 0), (1, -3, 1), (1, GREAT, 0), (1, -GREAT, 0),
                   (0, 0, 2), (0, 0, -1), (1, 1, -2), (1, 1, -3), (0, 0, GREAT), (0, 0, -GREAT)]
        for name in strange:
            with self.subTest(name):
                with self.assertRaises(OutOfShip):
                    part_at(self.ship, name)


if __name__ == "__main__":
    unittest.main()
