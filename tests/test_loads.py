"""[4] and [8]: boxes and loads."""

import itertools
import unittest

from samples import GREAT, NOT_CELLS, UNEVEN_CELLS, UNEVEN_PARTS, box, named, part, ship_args, uneven_ship_args
from stowhold.errors import NoLoad, OutOfShip
from stowhold.loads import Load, box_at, cell_of, top_of
from stowhold.ships import Ship, cells_of


def full_placed():
    return [(cell, box(named(number), weight=number)) for number, cell in enumerate(UNEVEN_CELLS)]


def some_placed():
    """Parts that are full, partly full and empty, both in hold and on deck."""
    return [
        ((0, 0, 1, 0), box("ash")),
        ((1, 0, 0, 0), box("birch")), ((1, 0, 0, 1), box("cedar")),
        ((1, 2, 0, 0), box("elm")), ((1, 2, 0, 1), box("fir")),
        ((1, 2, 1, 0), box("hazel")),
        ((2, 0, 1, 0), box("larch")),
    ]


class LoadsTaken(unittest.TestCase):
    def setUp(self):
        self.ship = Ship(*uneven_ship_args())

    def test_fields(self):
        load = Load(self.ship, some_placed())
        self.assertIs(load.ship, self.ship)
        self.assertEqual(load.placed, tuple(some_placed()))

    def test_the_empty_load(self):
        self.assertEqual(Load(self.ship, []).placed, ())

    def test_the_full_load(self):
        self.assertEqual(Load(self.ship, full_placed()).placed, tuple(full_placed()))

    def test_order_of_cells_whatever_the_order_handed_in(self):
        placed = full_placed()
        orders = [placed[::-1], sorted(placed), sorted(placed, key=lambda pair: pair[0][::-1])]
        orders += [placed[turn:] + placed[:turn] for turn in range(len(placed))]
        for order in orders:
            self.assertEqual(Load(self.ship, order).placed, tuple(placed))

    def test_every_order_of_a_small_load(self):
        placed = [((1, 2, 0, 0), box("e")), ((1, 2, 0, 1), box("d")), ((1, 1, 1, 0), box("c")),
                  ((2, 1, 0, 0), box("b")), ((2, 0, 1, 0), box("a"))]
        for order in itertools.permutations(placed):
            self.assertEqual(Load(self.ship, list(order)).placed, tuple(placed))

    def test_neither_rules_nor_hatches_are_asked(self):
        ship = Ship(*ship_args([[(part(2, 0, 0, (), 0), part(2, 0, 0, (), 0))]], [("oil", "oil")], 0, 0))
        placed = [((0, 0, 1, 0), box("a", 9, 9, 1, "oil")), ((0, 0, 1, 1), box("b", GREAT, GREAT, 1, "oil", GREAT))]
        self.assertEqual(Load(ship, placed).placed, tuple(placed))

    def test_boxes_alike_but_for_the_name(self):
        placed = [((1, 0, 0, 0), box("a")), ((1, 0, 0, 1), box("b"))]
        self.assertEqual(Load(self.ship, placed).placed, tuple(placed))

    def test_more_boxes_than_the_bound_are_not_refused(self):
        ship = Ship(*ship_args([[(part(9), part(9))] * 7]))
        names = [one + other for one in "abcdefghijkl" for other in "abcdefghijkl"]
        placed = [(cell, box(name)) for cell, name in zip(cells_of(ship), names)]
        self.assertEqual(len(placed), 126)
        self.assertEqual(Load(ship, placed[::-1]).placed, tuple(placed))


class LoadsRefused(unittest.TestCase):
    def setUp(self):
        self.ship = Ship(*uneven_ship_args())

    def refused(self, placed):
        with self.assertRaises(NoLoad):
            Load(self.ship, placed)

    def test_a_cell_that_is_not_the_ships(self):
        for cell in NOT_CELLS:
            with self.subTest(cell):
                self.refused([(cell, box("alone"))])
                self.refused(full_placed() + [(cell, box("added"))])
                self.refused([(cell, box("added"))] + some_placed())

    def test_a_cell_right_above_a_full_part(self):
        self.refused([((1, 0, 0, 0), box("a")), ((1, 0, 0, 1), box("b")), ((1, 0, 0, 2), box("c"))])

    def test_a_cell_told_twice(self):
        placed = full_placed()
        for cell in UNEVEN_CELLS:
            with self.subTest(cell):
                self.refused(placed + [(cell, box("added"))])
                self.refused([(cell, box("added"))] + placed)

    def test_the_same_pair_told_twice(self):
        for pair in some_placed():
            with self.subTest(pair):
                self.refused(some_placed() + [pair])

    def test_a_name_told_twice(self):
        placed = full_placed()
        for one, other in itertools.permutations(range(len(placed)), 2):
            twice = list(placed)
            twice[one] = (placed[one][0], box(named(other), 77, 7, 1, "coal", 7))
            with self.subTest(one=one, other=other):
                self.refused(twice)

    def test_a_box_above_an_empty_cell(self):
        for gap in ([(0, 0, 1, 1)], [(1, 0, 0, 1)], [(1, 2, 0, 1)], [(1, 2, 0, 2)], [(2, 0, 1, 1)],
                    [(1, 2, 0, 0), (1, 2, 0, 2)], [(1, 2, 0, 1), (1, 2, 0, 2)]):
            placed = [(cell, box(named(number))) for number, cell in enumerate(gap)]
            with self.subTest(gap):
                self.refused(placed)
                self.refused(placed[::-1])

    def test_a_gap_in_an_otherwise_full_load(self):
        for number, cell in enumerate(UNEVEN_CELLS):
            above = cell[:3] + (cell[3] + 1,)
            placed = full_placed()[:number] + full_placed()[number + 1:]
            with self.subTest(cell):
                if above in UNEVEN_CELLS:
                    self.refused(placed)
                else:
                    self.assertEqual(Load(self.ship, placed).placed, tuple(placed))

    def test_a_box_beneath_in_another_part_does_not_help(self):
        self.refused([((0, 0, 0, 0), box("a")), ((0, 0, 1, 1), box("b"))])
        self.refused([((1, 0, 0, 0), box("a")), ((1, 2, 0, 1), box("b"))])


class Asking(unittest.TestCase):
    def setUp(self):
        self.load = Load(Ship(*uneven_ship_args()), some_placed()[::-1])

    def test_box_at(self):
        boxes = dict(some_placed())
        for cell in UNEVEN_CELLS:
            with self.subTest(cell):
                self.assertEqual(box_at(self.load, cell), boxes.get(cell))
        self.assertEqual(box_at(self.load, (1, 2, 0, 1)), box("fir"))
        self.assertIsNone(box_at(self.load, (1, 2, 0, 2)))

    def test_box_at_a_cell_that_the_ship_has_not(self):
        full = Load(self.load.ship, full_placed())
        for cell in NOT_CELLS:
            with self.subTest(cell):
                self.assertIsNone(box_at(self.load, cell))
                self.assertIsNone(box_at(full, cell))

    def test_box_at_tells_all_six_things(self):
        told = ("amber", GREAT, 4, 1, "silk", 12)
        self.assertEqual(box_at(Load(self.load.ship, [((0, 0, 0, 0), told)]), (0, 0, 0, 0)), told)

    def test_cell_of(self):
        for cell, told in some_placed():
            with self.subTest(told):
                self.assertEqual(cell_of(self.load, told[0]), cell)

    def test_cell_of_a_strange_name(self):
        for name in ("oak", "as", "ashes", "tea"):
            self.assertIsNone(cell_of(self.load, name))
        self.assertIsNone(cell_of(Load(self.load.ship, []), "ash"))

    def test_top_of(self):
        told = [top_of(self.load, name) for name in UNEVEN_PARTS]
        self.assertEqual(told, [0, 1, 2, 0, 2, 0, 0, 1, 0, 0, 1, 0])

    def test_top_of_the_full_and_the_empty_load(self):
        full, empty = Load(self.load.ship, full_placed()), Load(self.load.ship, [])
        self.assertEqual([top_of(full, name) for name in UNEVEN_PARTS], [1, 2, 2, 0, 3, 0, 1, 1, 0, 1, 2, 1])
        self.assertEqual([top_of(empty, name) for name in UNEVEN_PARTS], [0] * len(UNEVEN_PARTS))

    def test_top_of_nine(self):
        ship = Ship(*ship_args([[(part(9), part(9))]]))
        placed = [(cell, box(named(number))) for number, cell in enumerate(cells_of(ship))]
        for count in range(19):
            load = Load(ship, placed[:count])
            self.assertEqual((top_of(load, (0, 0, 0)), top_of(load, (0, 0, 1))), (min(count, 9), max(count - 9, 0)))

    def test_top_of_a_strange_part(self):
        for name in ((3, 0, 0), (-1, 0, 0), (0, 1, 0), (1, 3, 1), (1, -1, 0), (0, 0, 2), (0, 0, -1), (GREAT, 0, 0)):
            with self.subTest(name):
                with self.assertRaises(OutOfShip):
                    top_of(self.load, name)


if __name__ == "__main__":
    unittest.main()
