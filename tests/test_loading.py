"""[25] and [26]: boxes loaded one by one, in the order of a list or by ports."""

import itertools
import random
import unittest

from samples import GREAT, box, chance_ship, great_box, great_ship, named, part, ship_args
from stowhold.errors import Twice
from stowhold.lifts import after_lift
from stowhold.loading import loaded, loaded_by_ports
from stowhold.loads import Load
from stowhold.places import bars_of, free_places
from stowhold.rules import faults_of, sound
from stowhold.ships import Ship, cells_of, parts_of


def ship_of(*stacks, foes=()):
    """A ship of one bay."""
    return Ship(*ship_args([stacks], foes))


def small_ship():
    return ship_of((part(2, 10), part(1, 10)), (part(1, 10), part(1, 10)))


def cells_by_name(load):
    return {one[0]: cell for cell, one in load.placed}


def by_words(load, boxes):
    """What loaded is to tell, word by word as [25] says it."""
    left = []
    for one in boxes:
        bars = bars_of(load, one)
        for cell, word in bars:
            if word is None:
                load = Load(load.ship, load.placed + ((cell, one),))
                break
        else:
            left.append((one, bars))
    return load.placed, left


def told_by(load, boxes, load_boxes=loaded):
    told = load_boxes(load, boxes)
    return told[0].placed, told[1]


def chance_boxes(chance, first, count):
    return [box(named(first + at), chance.randrange(6), chance.randrange(6), chance.randrange(5) // 4,
                chance.choice(["tea", "oil", "silk"]), chance.randrange(3)) for at in range(count)]


class InOrder(unittest.TestCase):
    def test_kinds(self):
        told = loaded(Load(small_ship(), []), [box("a"), box("b", 99)])
        self.assertIsInstance(told, tuple)
        self.assertEqual(len(told), 2)
        self.assertIsInstance(told[0], Load)
        self.assertIsInstance(told[1], list)
        self.assertIsInstance(told[1][0], tuple)
        self.assertEqual(len(told[1][0]), 2)
        self.assertIsInstance(told[1][0][1], list)

    def test_each_at_the_first_free_place(self):
        ship = small_ship()
        load, left = loaded(Load(ship, []), [box(name, 1) for name in "edcba"])
        self.assertIs(load.ship, ship)
        self.assertEqual(cells_by_name(load), {"e": (0, 0, 0, 0), "d": (0, 0, 0, 1), "c": (0, 1, 0, 0),
                                               "b": (0, 0, 1, 0), "a": (0, 1, 1, 0)})
        self.assertEqual(left, [])

    def test_each_at_the_first_place_that_nothing_bars(self):
        ship = ship_of((part(2, 5), part(1, 10)), (part(2, 20, 5), part(2, 99, 99, [1])))
        load, left = loaded(Load(ship, []), [box("a", 6, 3), box("b", 5, 3), box("c", 6, 2)])
        self.assertEqual(cells_by_name(load), {"a": (0, 1, 0, 0), "b": (0, 0, 0, 0), "c": (0, 1, 0, 1)})
        self.assertEqual(left, [])

    def test_later_boxes_see_the_earlier_ones(self):
        ship = ship_of((part(3, 10), part(0)), (part(3, 10), part(0)))
        load, left = loaded(Load(ship, []), [box("a", 6), box("b", 6), box("c", 4), box("d", 4), box("e", 1)])
        self.assertEqual(cells_by_name(load), {"a": (0, 0, 0, 0), "b": (0, 1, 0, 0), "c": (0, 0, 0, 1),
                                               "d": (0, 1, 0, 1)})
        self.assertEqual(left, [(box("e", 1), [((0, 0, 0, 2), "strength"), ((0, 1, 0, 2), "strength")])])

    def test_an_earlier_box_is_a_foe_of_a_later_one(self):
        ship = ship_of((part(2), part(1)), (part(2), part(0)), (part(2), part(0)), foes=[("tea", "oil")])
        load, left = loaded(Load(ship, []), [box("a"), box("b", sort="oil"), box("c", sort="oil"), box("d")])
        self.assertEqual(cells_by_name(load), {"a": (0, 0, 0, 0), "b": (0, 2, 0, 0), "c": (0, 2, 0, 1),
                                               "d": (0, 0, 0, 1)})

    def test_a_box_on_deck_shuts_the_hold_for_later_ones(self):
        ship = ship_of((part(2, 5), part(2)))
        load, left = loaded(Load(ship, []), [box("a", 6), box("b", 5), box("c", 5)])
        self.assertEqual(cells_by_name(load), {"a": (0, 0, 1, 0), "b": (0, 0, 1, 1)})
        self.assertEqual(left, [(box("c", 5), [])])

    def test_those_that_were_left_in_order_with_the_bars_of_their_turn(self):
        ship = ship_of((part(2, 10), part(0)), (part(1, 20), part(0)))
        boxes = [box("z", 21), box("c", 8), box("y", 15, cold=1), box("b", 15), box("x", 9), box("a", 2), box("w", 1)]
        load, left = loaded(Load(ship, []), boxes)
        self.assertEqual(cells_by_name(load), {"c": (0, 0, 0, 0), "b": (0, 1, 0, 0), "a": (0, 0, 0, 1)})
        self.assertEqual(left, [
            (box("z", 21), [((0, 0, 0, 0), "strength"), ((0, 1, 0, 0), "strength")]),
            (box("y", 15, cold=1), [((0, 0, 0, 1), "strength"), ((0, 1, 0, 0), "cold")]),
            (box("x", 9), [((0, 0, 0, 1), "strength")]),
            (box("w", 1), [])])

    def test_onto_a_load_that_has_boxes(self):
        ship = small_ship()
        load = Load(ship, [((0, 0, 0, 0), box("a", 10)), ((0, 1, 0, 0), box("b"))])
        told, left = loaded(load, [box("c"), box("d")])
        self.assertEqual(told.placed, load.placed + (((0, 0, 1, 0), box("c")), ((0, 1, 1, 0), box("d"))))
        self.assertEqual(left, [])

    def test_no_boxes(self):
        ship = small_ship()
        for placed in ([], [((0, 0, 0, 0), box("a"))]):
            for load_boxes in (loaded, loaded_by_ports):
                told = load_boxes(Load(ship, placed), [])
                self.assertEqual((told[0].placed, told[1]), (tuple(placed), []))
                self.assertIsInstance(told, tuple)

    def test_a_full_ship(self):
        ship = small_ship()
        load = Load(ship, [(cell, box(named(at))) for at, cell in enumerate(cells_of(ship))])
        told = loaded(load, [box("b"), box("a")])
        self.assertEqual((told[0].placed, told[1]), (load.placed, [(box("b"), []), (box("a"), [])]))

    def test_moments_are_not_asked(self):
        ship = Ship(*ship_args([[(part(), part())]], (), 0, 0))
        self.assertEqual(len(loaded(Load(ship, []), [box("a", 40)])[0].placed), 1)

    def test_an_unsound_load_gets_no_new_fault(self):
        ship = ship_of((part(2, 4), part(1)), (part(2), part(1)), foes=[("tea", "oil")])
        load = Load(ship, [((0, 0, 0, 0), box("a", 5, cold=1))])
        told, left = loaded(load, [box("b", sort="oil"), box("c", 1)])
        self.assertEqual(cells_by_name(told), {"a": (0, 0, 0, 0), "b": (0, 0, 1, 0)})
        self.assertEqual(left, [(box("c", 1), [((0, 1, 1, 0), "apart")])])
        self.assertEqual(faults_of(told), faults_of(load))

    def test_by_chance(self):
        chance, lefts = random.Random(25), 0
        for at in range(60):
            ship = chance_ship(chance, 2, [("tea", "oil")])
            first = loaded(Load(ship, []), chance_boxes(chance, 0, 4))[0]
            boxes = chance_boxes(chance, 4, 10)
            told, left = loaded(first, boxes)
            self.assertEqual((told.placed, left), by_words(first, boxes))
            self.assertTrue(sound(first) and sound(told))
            self.assertEqual(len(told.placed) + len(left), len(first.placed) + 10)
            lefts += len(left)
        self.assertGreater(lefts, 100)

    def test_what_was_taken_off_may_be_loaded_again(self):
        load = Load(small_ship(), [((0, 0, 0, 0), box("a"))])
        told = loaded(after_lift(load, ("off", (0, 0, 0, 0))), [box("a")])
        self.assertEqual((told[0].placed, told[1]), (load.placed, []))

    def test_at_the_bounds(self):
        """Eight bays of eight stacks of parts of nine cells, a hundred boxes, numbers of sixty figures."""
        ship = great_ship([("s" * 12, "s" * 12)])
        boxes = [great_box(number) for number in range(100)]
        for load_boxes in (loaded, loaded_by_ports):
            load, left = load_boxes(Load(ship, []), boxes)
            # A sort that is its own foe leaves every other stack empty.
            self.assertEqual([cell for cell, one in load.placed],
                             [name_part + (0,) for name_part in parts_of(ship) if name_part[1] % 2 == 0])
            self.assertEqual([one for one, bars in left], boxes[64:])
            self.assertEqual({cell for cell, word in left[0][1]}, set(free_places(load)))
            self.assertEqual({word for cell, word in left[0][1]}, {"strength", "apart"})


class Names(unittest.TestCase):
    def refuse(self, load, boxes):
        for load_boxes in (loaded, loaded_by_ports):
            self.assertRaises(Twice, load_boxes, load, boxes)

    def test_a_name_that_is_in_the_load(self):
        load = Load(small_ship(), [((0, 0, 0, 0), box("a"))])
        self.refuse(load, [box("a")])
        self.refuse(load, [box("a", 99, 99, 1, "oil", 9)])
        self.refuse(load, [box("b"), box("c"), box("a")])

    def test_a_name_that_comes_twice_and_was_loaded(self):
        load = Load(small_ship(), [])
        self.refuse(load, [box("a"), box("a")])
        self.refuse(load, [box("a"), box("b"), box("a", 6, 4, 1, "oil", 9)])

    def test_a_name_that_comes_twice_and_was_left(self):
        load = Load(small_ship(), [])
        self.refuse(load, [box("a", 99), box("a", 99)])
        self.refuse(load, [box("a", 99), box("b"), box("a")])
        self.refuse(load, [box("a"), box("a", 99)])

    def test_where_there_is_no_free_place(self):
        load = Load(ship_of((part(0), part(1))), [((0, 0, 1, 0), box("a"))])
        self.refuse(load, [box("a")])
        self.refuse(load, [box("b"), box("c"), box("b")])


class ByPorts(unittest.TestCase):
    def order(self, boxes):
        """The names in the order in which they were loaded, one upon the other."""
        load, left = loaded_by_ports(Load(ship_of((part(9, GREAT * 9, GREAT), part(0))), []), boxes)
        self.assertEqual(left, [])
        return "".join(one[0] for cell, one in load.placed)

    def test_by_falling_ports(self):
        for boxes in itertools.permutations([box("a", port=2), box("b", port=10), box("c", port=0), box("d", port=9)]):
            self.assertEqual(self.order(boxes), "bdac")

    def test_by_falling_weights_among_the_same_port(self):
        for boxes in itertools.permutations([box("a", 2), box("b", 10), box("c", 0), box("d", 9)]):
            self.assertEqual(self.order(boxes), "bdac")

    def test_then_by_names(self):
        boxes = [box(name) for name in ("b", "ab", "c", "a", "aa")]
        for turned in itertools.permutations(boxes):
            self.assertEqual(self.order(turned), "a" + "aa" + "ab" + "b" + "c")

    def test_ports_ahead_of_weights_ahead_of_names(self):
        boxes = [box("a", 1, port=1), box("b", 2, port=1), box("c", 2, port=1), box("d", 1, port=2),
                 box("e", 1, port=2), box("f", 0, port=3)]
        for turned in itertools.permutations(boxes):
            self.assertEqual(self.order(turned), "fdebca")

    def test_height_cold_and_sort_count_for_nothing(self):
        boxes = [box("a", 5, 9, 0, "wool"), box("b", 5, 1, 0, "oil"), box("c", 5, 5, 0, "tea")]
        for turned in itertools.permutations(boxes):
            self.assertEqual(self.order(turned), "abc")

    def test_numbers_of_sixty_figures(self):
        boxes = [box("a", 1, port=GREAT - 1), box("b", 1, port=GREAT), box("c", GREAT - 1, port=GREAT),
                 box("d", GREAT, port=GREAT)]
        for turned in itertools.permutations(boxes):
            self.assertEqual(self.order(turned), "dcba")

    def test_those_that_were_left_in_that_order(self):
        ship = ship_of((part(1, 10), part(0)))
        boxes = [box("a", 11, port=1), box("b", 12, port=1), box("c", 13, port=3), box("d", 3, port=2), box("e", 3)]
        load, left = loaded_by_ports(Load(ship, []), boxes)
        self.assertEqual(load.placed, (((0, 0, 0, 0), box("d", 3, port=2)),))
        self.assertEqual(left, [(box("c", 13, port=3), [((0, 0, 0, 0), "strength")]), (box("b", 12, port=1), []),
                                (box("a", 11, port=1), []), (box("e", 3), [])])

    def test_by_chance(self):
        chance = random.Random(26)
        for at in range(40):
            load = Load(chance_ship(chance, 2, [("tea", "oil")]), [])
            boxes = chance_boxes(chance, 0, 10)
            # Sorted thrice, from the least thing to the greatest, as sorting keeps the order of what is alike.
            turned = sorted(boxes, key=lambda one: one[0])
            turned = sorted(turned, key=lambda one: one[1], reverse=True)
            turned = sorted(turned, key=lambda one: one[5], reverse=True)
            self.assertEqual(told_by(load, boxes, loaded_by_ports), by_words(load, turned))
            self.assertTrue(sound(loaded_by_ports(load, boxes)[0]))


if __name__ == "__main__":
    unittest.main()
