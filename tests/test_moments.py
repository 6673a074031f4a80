"""[12] and [13]: weight, moments, even loads and makeweights."""

import itertools
import unittest

from samples import GREAT, NOT_CELLS, UNEVEN_CELLS, box, named, part, uneven_ship_args
from stowhold.errors import NoBox, OutOfShip
from stowhold.loads import Load
from stowhold.moments import even, makeweight, moments, moments_with, moments_without
from stowhold.ships import Ship, parts_of

ARMS = (-7, 0, 4)
SIDES = (-3, 0, 5)


def armed_ship(trim=100, heel=100, arms=ARMS, sides=SIDES, cells=2):
    return Ship([(arm, [(side, part(cells), part(cells)) for side in sides]) for arm in arms], [], trim, heel)


def single_ship(arm, side, trim, heel):
    """Bay 0 has the arms that are asked; bays 1 and 2 move a load along alone, bay 3's stacks across alone."""
    return Ship([(arm, [(side, part(), part())]), (1, [(0, part(), part())]), (-1, [(0, part(), part())]),
                 (0, [(1, part(), part()), (-1, part(), part())])], [], trim, heel)


def loaded_to(ship, along, across):
    """A load of single_ship with these moments, its bay 0 being empty."""
    placed = [((1 if along >= 0 else 2, 0, 0, 0), box("along", abs(along))),
              ((3, 0 if across >= 0 else 1, 0, 0), box("across", abs(across)))]
    return Load(ship, placed)


def found_makeweight(arm, side, along, across, trim, heel, most):
    """By trying each weight up to the most; no greatest where the most does too."""
    good = [weight for weight in range(most + 1)
            if -trim <= along + weight * arm <= trim and -heel <= across + weight * side <= heel]
    if not good:
        return None
    return (good[0], None if good[-1] == most else good[-1])


class Moments(unittest.TestCase):
    def test_the_empty_load(self):
        self.assertEqual(moments(Load(armed_ship(), [])), (0, 0, 0))

    def test_one_box_at_each_cell(self):
        for bay, stack, deck in itertools.product(range(3), range(3), (0, 1)):
            load = Load(armed_ship(), [((bay, stack, deck, 0), box("a", 6))])
            with self.subTest(bay=bay, stack=stack, deck=deck):
                self.assertEqual(moments(load), (6, 6 * ARMS[bay], 6 * SIDES[stack]))

    def test_several_boxes(self):
        placed = [((0, 0, 0, 0), box("a", 10)), ((0, 0, 0, 1), box("b", 1)), ((0, 2, 1, 0), box("c", 3)),
                  ((1, 0, 1, 0), box("d", 8)), ((2, 2, 0, 0), box("e", 9)), ((2, 1, 1, 0), box("f", 0))]
        told = (31, -70 - 7 - 21 + 0 + 36, -30 - 3 + 15 - 24 + 45)
        self.assertEqual(moments(Load(armed_ship(), placed)), told)
        self.assertEqual(moments(Load(armed_ship(), placed[::-1])), told)

    def test_neither_heights_nor_tiers_nor_ports_count(self):
        one = [((0, 0, 0, 0), box("a", 5)), ((0, 0, 0, 1), box("b", 8))]
        other = [((0, 0, 0, 0), box("c", 8, 30, 1, "oil", 9)), ((0, 0, 1, 0), box("d", 5, 40, 1, "silk", 8))]
        self.assertEqual(moments(Load(armed_ship(), one)), (13, -91, -39))
        self.assertEqual(moments(Load(armed_ship(), other)), (13, -91, -39))

    def test_great_numbers(self):
        ship = armed_ship(GREAT, GREAT, (-GREAT, GREAT), (-GREAT, 1))
        load = Load(ship, [((0, 0, 0, 0), box("a", GREAT)), ((1, 1, 0, 0), box("b", GREAT - 1))])
        self.assertEqual(moments(load), (2 * GREAT - 1, -GREAT, -GREAT * GREAT + GREAT - 1))

    def test_a_full_ship(self):
        ship = Ship(*uneven_ship_args())
        load = Load(ship, [(cell, box(named(at), at + 1)) for at, cell in enumerate(UNEVEN_CELLS)])
        self.assertEqual(moments(load), (
            sum(range(1, 15)),
            sum((at + 1) * (cell[0] - 1) for at, cell in enumerate(UNEVEN_CELLS)),
            sum((at + 1) * (cell[1] - 1) for at, cell in enumerate(UNEVEN_CELLS)),
        ))

    def test_kinds(self):
        load = Load(armed_ship(), [((0, 0, 0, 0), box("a"))])
        for told in (moments(load), moments_with(load, (0, 0, 0, 0), box("b")), moments_without(load, (0, 0, 0, 0))):
            self.assertIs(type(told), tuple)
            self.assertEqual([type(one) for one in told], [int, int, int])


class WithAndWithout(unittest.TestCase):
    def setUp(self):
        self.placed = [((0, 0, 0, 0), box("a", 10)), ((0, 0, 0, 1), box("b", 4)), ((2, 2, 1, 0), box("c", 3))]
        self.load = Load(armed_ship(), self.placed)
        self.told = (17, -98 + 12, -42 + 15)

    def test_with_a_box_at_a_free_cell(self):
        self.assertEqual(moments(self.load), self.told)
        for cell in ((1, 0, 0, 0), (2, 2, 1, 1), (0, 1, 1, 0), (2, 0, 0, 0), (1, 1, 1, 0)):
            told = (17 + 6, self.told[1] + 6 * ARMS[cell[0]], self.told[2] + 6 * SIDES[cell[1]])
            with self.subTest(cell):
                self.assertEqual(moments_with(self.load, cell, box("d", 6)), told)

    def test_with_a_box_where_one_stands(self):
        self.assertEqual(moments_with(self.load, (0, 0, 0, 0), box("d", 2)), (19, -98 + 12 - 14, -42 + 15 - 6))
        self.assertEqual(moments_with(self.load, (2, 2, 1, 0), box("d", 2)), (19, -98 + 12 + 8, -42 + 15 + 10))

    def test_with_a_box_that_could_not_stand_there(self):
        told = (17 + GREAT, -86 - 7 * GREAT, -27 + 5 * GREAT)
        self.assertEqual(moments_with(self.load, (0, 2, 0, 1), box("a", GREAT, GREAT, 1)), told)

    def test_with_a_box_without_weight(self):
        self.assertEqual(moments_with(self.load, (2, 2, 0, 0), box("d", 0)), self.told)

    def test_with_a_box_in_the_empty_load(self):
        self.assertEqual(moments_with(Load(armed_ship(), []), (0, 2, 0, 0), box("d", 2)), (2, -14, 10))

    def test_without_each_box(self):
        self.assertEqual(moments_without(self.load, (0, 0, 0, 0)), (7, -28 + 12, -12 + 15))
        self.assertEqual(moments_without(self.load, (0, 0, 0, 1)), (13, -70 + 12, -30 + 15))
        self.assertEqual(moments_without(self.load, (2, 2, 1, 0)), (14, -98, -42))

    def test_without_the_only_box(self):
        load = Load(armed_ship(), [((0, 0, 1, 0), box("a", GREAT))])
        self.assertEqual(moments_without(load, (0, 0, 1, 0)), (0, 0, 0))

    def test_without_a_box_of_no_weight(self):
        load = Load(armed_ship(), [((0, 0, 1, 0), box("a", 0)), ((0, 0, 1, 1), box("b", 2))])
        self.assertEqual(moments_without(load, (0, 0, 1, 0)), (2, -14, -6))

    def test_without_where_no_box_stands(self):
        empty = [(0, 0, 1, 0), (1, 0, 0, 0), (2, 2, 1, 1), (2, 2, 0, 0)]
        strange = [(0, 0, 0, 2), (0, 0, 0, -1), (0, 3, 0, 0), (0, -3, 0, 0), (3, 0, 0, 0), (-3, 0, 0, 0),
                   (0, 0, 2, 0), (0, 0, -1, 0), (GREAT, 0, 0, 0), (0, 0, 0, GREAT)]
        for cell in empty + strange:
            with self.subTest(cell):
                with self.assertRaises(NoBox):
                    moments_without(self.load, cell)

    def test_without_in_a_ship_of_many_parts(self):
        ship = Ship(*uneven_ship_args())
        full = Load(ship, [(cell, box(named(at))) for at, cell in enumerate(UNEVEN_CELLS)])
        for cell in NOT_CELLS:
            with self.assertRaises(NoBox):
                moments_without(full, cell)
        for cell in UNEVEN_CELLS:
            with self.assertRaises(NoBox):
                moments_without(Load(ship, []), cell)


class Even(unittest.TestCase):
    def test_each_bound_from_both_sides(self):
        for along, across in itertools.product((-11, -10, -9, 0, 9, 10, 11), (-8, -7, -6, 0, 6, 7, 8)):
            load = loaded_to(single_ship(0, 0, 10, 7), along, across)
            self.assertEqual(moments(load)[1:], (along, across))
            with self.subTest(along=along, across=across):
                self.assertIs(even(load), along in range(-10, 11) and across in range(-7, 8))

    def test_bounds_of_nought(self):
        for along, across, told in ((0, 0, True), (1, 0, False), (-1, 0, False), (0, 1, False), (0, -1, False)):
            self.assertIs(even(loaded_to(single_ship(0, 0, 0, 0), along, across)), told)

    def test_boxes_against_one_another(self):
        ship = armed_ship(0, 0, (-3, 2), (-1, 1))
        placed = [((0, 0, 0, 0), box("a", 2)), ((1, 1, 0, 0), box("b", 3))]
        self.assertIs(even(Load(ship, placed)), False)
        self.assertIs(even(Load(ship, placed + [((0, 1, 0, 0), box("c", 2)), ((1, 0, 0, 0), box("d", 3))])), True)

    def test_the_empty_load(self):
        self.assertIs(even(Load(armed_ship(0, 0), [])), True)

    def test_great_numbers(self):
        for weight, told in ((GREAT - 1, True), (GREAT, True), (GREAT + 1, False)):
            for along, across in ((weight, 0), (-weight, 0), (0, weight), (0, -weight)):
                self.assertIs(even(loaded_to(single_ship(0, 0, GREAT, GREAT), along, across)), told)


class Makeweight(unittest.TestCase):
    def told(self, arm, side, along, across, trim, heel):
        ship = single_ship(arm, side, trim, heel)
        load = loaded_to(ship, along, across)
        hold, deck = makeweight(load, (0, 0, 0)), makeweight(load, (0, 0, 1))
        self.assertEqual(hold, deck)
        return hold

    def test_as_found_by_trying(self):
        for arm, side in itertools.product((-3, -2, -1, 0, 1, 2, 3), repeat=2):
            for along, across in itertools.product((-9, -4, 0, 3, 8), (-7, 0, 5)):
                for trim, heel in ((0, 0), (4, 3), (3, 7), (9, 0)):
                    with self.subTest(arms=(arm, side), moments=(along, across), bounds=(trim, heel)):
                        self.assertEqual(self.told(arm, side, along, across, trim, heel),
                                         found_makeweight(arm, side, along, across, trim, heel, 30))

    def test_bounded_along_alone(self):
        self.assertEqual(self.told(2, 0, 0, 0, 10, 0), (0, 5))
        self.assertEqual(self.told(-2, 0, 0, 0, 10, 0), (0, 5))

    def test_bounded_across_alone(self):
        self.assertEqual(self.told(0, 3, 0, 0, 0, 10), (0, 3))
        self.assertEqual(self.told(0, -3, 0, 0, 0, 10), (0, 3))

    def test_the_narrower_of_both(self):
        self.assertEqual(self.told(1, 1, 0, 0, 4, 9), (0, 4))
        self.assertEqual(self.told(1, 1, 0, 0, 9, 4), (0, 4))
        self.assertEqual(self.told(1, -1, -6, 4, 3, 9), (3, 9))
        self.assertEqual(self.told(1, -1, -6, 8, 4, 3), (5, 10))
        self.assertEqual(self.told(1, -1, -5, 9, 4, 1), (8, 9))

    def test_least_above_nought(self):
        self.assertEqual(self.told(5, 0, -40, 0, 10, 0), (6, 10))
        self.assertEqual(self.told(-5, 0, 40, 0, 10, 0), (6, 10))
        self.assertEqual(self.told(0, 5, 0, -40, 0, 10), (6, 10))
        self.assertEqual(self.told(0, -5, 0, 40, 0, 10), (6, 10))

    def test_where_the_division_does_not_come_out_even(self):
        self.assertEqual(self.told(5, 0, -41, 0, 10, 0), (7, 10))
        self.assertEqual(self.told(5, 0, -39, 0, 10, 0), (6, 9))
        self.assertEqual(self.told(-5, 0, 41, 0, 10, 0), (7, 10))
        self.assertEqual(self.told(-5, 0, 39, 0, 10, 0), (6, 9))
        self.assertEqual(self.told(0, 7, 0, -20, 0, 8), (2, 4))

    def test_just_one_weight(self):
        self.assertEqual(self.told(4, 0, -8, 0, 0, 0), (2, 2))
        self.assertEqual(self.told(4, 0, 3, 0, 3, 0), (0, 0))
        self.assertEqual(self.told(4, -2, -8, 4, 0, 0), (2, 2))

    def test_no_greatest(self):
        self.assertEqual(self.told(0, 0, 0, 0, 0, 0), (0, None))
        self.assertEqual(self.told(0, 0, -5, 6, 5, 6), (0, None))

    def test_none_at_all(self):
        self.assertIsNone(self.told(0, 0, 6, 0, 5, 0))
        self.assertIsNone(self.told(0, 0, -6, 0, 5, 0))
        self.assertIsNone(self.told(0, 0, 0, 7, 5, 6))
        self.assertIsNone(self.told(0, 1, 6, 0, 5, 9))
        self.assertIsNone(self.told(1, 0, 0, -7, 5, 6))
        self.assertIsNone(self.told(1, 0, 6, 0, 5, 0))
        self.assertIsNone(self.told(-1, 0, -6, 0, 5, 0))
        self.assertIsNone(self.told(10, 0, -15, 0, 4, 0))
        self.assertIsNone(self.told(1, 1, -9, 0, 2, 3))

    def test_great_numbers(self):
        self.assertEqual(self.told(1, 0, 0, 0, GREAT, 0), (0, GREAT))
        self.assertEqual(self.told(-1, 0, GREAT, 0, GREAT, 0), (0, 2 * GREAT))
        self.assertEqual(self.told(3, 0, -GREAT, 0, 2, 0), (GREAT // 3, GREAT // 3))
        self.assertEqual(self.told(3, 0, -GREAT - 1, 0, 1, 0), (GREAT // 3, GREAT // 3))
        self.assertEqual(self.told(3, 0, -GREAT - 1, 0, 2, 0), (GREAT // 3, GREAT // 3 + 1))
        self.assertEqual(self.told(GREAT, -GREAT, 0, 0, GREAT, GREAT - 1), (0, 0))
        self.assertEqual(self.told(GREAT, -GREAT, 0, 0, GREAT, GREAT), (0, 1))
        self.assertIsNone(self.told(GREAT, 0, 1 - GREAT, 0, 0, 0))
        self.assertEqual(self.told(0, 0, GREAT, -GREAT, GREAT, GREAT), (0, None))

    def test_a_full_part_and_one_without_cells(self):
        ship = Ship([(1, [(0, part(0), part(1)), (0, part(3, 0, 0, (), 0), part(3))])], [], 20, 0)
        load = Load(ship, [((0, 0, 1, 0), box("a", 5))])
        for name in parts_of(ship):
            with self.subTest(name):
                self.assertEqual(makeweight(load, name), (0, 15))

    def test_the_arms_of_the_part_that_is_asked(self):
        load = Load(armed_ship(56, 30), [])
        told = [makeweight(load, (bay, stack, 1)) for bay in range(3) for stack in range(3)]
        self.assertEqual(told, [(0, 8), (0, 8), (0, 6), (0, 10), (0, None), (0, 6), (0, 10), (0, 14), (0, 6)])

    def test_both_ends_are_even_and_those_beyond_are_not(self):
        ship = armed_ship(25, 14)
        load = Load(ship, [((0, 2, 0, 0), box("a", 7))])
        self.assertIs(even(load), False)
        self.assertEqual(makeweight(load, (2, 0, 0)), (7, 16))
        for weight in range(30):
            with_it = Load(ship, [((0, 2, 0, 0), box("a", 7)), ((2, 0, 0, 0), box("b", weight))])
            self.assertIs(even(with_it), 7 <= weight <= 16)

    def test_strange_parts(self):
        load = Load(Ship(*uneven_ship_args()), [])
        for name in ((3, 0, 0), (-1, 0, 0), (-3, 0, 1), (0, 1, 0), (1, 3, 1), (1, -1, 0), (0, 0, 2), (0, 0, -1),
                     (GREAT, 0, 0), (0, GREAT, 0), (0, 0, GREAT)):
            with self.subTest(name):
                with self.assertRaises(OutOfShip):
                    makeweight(load, name)

    def test_a_strange_part_where_no_weight_would_do(self):
        load = loaded_to(single_ship(0, 0, 0, 0), 5, 5)
        self.assertIsNone(makeweight(load, (0, 0, 0)))
        with self.assertRaises(OutOfShip):
            makeweight(load, (4, 0, 0))

    def test_kinds(self):
        told = self.told(1, 1, 0, 0, 5, 5)
        self.assertIs(type(told), tuple)
        self.assertEqual([type(one) for one in told], [int, int])


if __name__ == "__main__":
    unittest.main()
