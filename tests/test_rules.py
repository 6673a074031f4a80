"""[9] to [11]: near cells, the rules, faults and sound loads."""

import itertools
import unittest

from samples import GREAT, NOT_CELLS, UNEVEN_CELLS, box, named, part, ship_args, uneven_ship_args
from stowhold.errors import NoLoad
from stowhold.loads import Load
from stowhold.rules import Apart, Cold, Height, Lash, Rule, Strength, faults_of, near, sound
from stowhold.ships import Ship

RULES = [Strength, Height, Cold, Apart, Lash]
WORDS = ["strength", "height", "cold", "apart", "lash"]
WIDE = part(9, GREAT, GREAT, tuple(range(9)), GREAT)


def wide_ship(odd=None, place=(0, 0, 0), foes=()):
    """Two bays of three stacks that bear anything, but for the odd part at one place."""
    def at(bay, stack, deck):
        return odd if odd is not None and (bay, stack, deck) == place else WIDE
    return Ship(*ship_args([[(at(bay, stack, 0), at(bay, stack, 1)) for stack in range(3)] for bay in range(2)], foes))


def stacked(place, boxes):
    return [(place + (tier,), told) for tier, told in enumerate(boxes)]


def broken_tiers(rule, load, place, count):
    return [tier for tier in range(count) if rule.broken(load, place + (tier,))]


class Near(unittest.TestCase):
    def test_all_cells_around_one(self):
        for deck in (0, 1):
            near_ones = [(1, 2, deck, 2), (1, 2, deck, 4),
                         (1, 1, deck, 2), (1, 1, deck, 3), (1, 1, deck, 4),
                         (1, 3, deck, 2), (1, 3, deck, 3), (1, 3, deck, 4)]
            around = itertools.product(range(3), range(6), (0, 1), range(7))
            found = [cell for cell in around if near((1, 2, deck, 3), cell)]
            self.assertEqual(found, sorted(near_ones))

    def test_same_stack(self):
        for other, told in (((0, 0, 0, 1), True), ((0, 0, 0, 2), False), ((0, 0, 0, 0), False)):
            self.assertIs(near((0, 0, 0, 0), other), told)
            self.assertIs(near(other, (0, 0, 0, 0)), told)

    def test_neighbouring_stack(self):
        for other, told in (((0, 1, 1, 4), True), ((0, 1, 1, 5), True), ((0, 1, 1, 3), True),
                            ((0, 1, 1, 6), False), ((0, 1, 1, 2), False)):
            self.assertIs(near((0, 0, 1, 4), other), told)
            self.assertIs(near(other, (0, 0, 1, 4)), told)

    def test_two_stacks_apart(self):
        for tier in (0, 1, 2):
            self.assertIs(near((0, 0, 0, 1), (0, 2, 0, tier)), False)
            self.assertIs(near((0, 2, 0, tier), (0, 0, 0, 1)), False)

    def test_unlike_bays_and_hold_and_deck(self):
        for other in ((1, 1, 0, 1), (1, 1, 0, 2), (1, 2, 0, 1), (0, 1, 1, 1), (0, 1, 1, 0), (0, 2, 1, 2)):
            self.assertIs(near((0, 1, 0, 1), other), False)
            self.assertIs(near(other, (0, 1, 0, 1)), False)

    def test_the_same_cell(self):
        for cell in ((0, 0, 0, 0), (1, 2, 1, 3), (GREAT, GREAT, 1, GREAT)):
            self.assertIs(near(cell, tuple(list(cell))), False)

    def test_great_numbers(self):
        self.assertIs(near((GREAT, GREAT, 0, GREAT), (GREAT, GREAT - 1, 0, GREAT - 1)), True)
        self.assertIs(near((GREAT, GREAT, 0, GREAT), (GREAT, GREAT - 2, 0, GREAT)), False)
        self.assertIs(near((GREAT, 0, 0, GREAT), (GREAT, 0, 0, GREAT - 2)), False)
        self.assertIs(near((GREAT, 0, 0, 0), (GREAT - 1, 0, 0, 0)), False)


class Words(unittest.TestCase):
    def test_words(self):
        self.assertEqual([rule().word() for rule in RULES], WORDS)
        self.assertEqual(Rule().word(), "none")

    def test_each_stands_right_under_rule(self):
        for rule in RULES:
            self.assertEqual(rule.__bases__, (Rule,))

    def test_rule_itself_is_never_broken(self):
        nothing = part(3, 0, 0, (), 0)
        ship = Ship(*ship_args([[(nothing, nothing)]], [("oil", "oil")], 0, 0))
        load = Load(ship, [((0, 0, deck, tier), box(named(2 * deck + tier), 9, 9, 1, "oil"))
                           for deck in (0, 1) for tier in (0, 1)])
        for cell in itertools.product((-1, 0, 1), (-1, 0, 1), (-1, 0, 1, 2), (-1, 0, 1, 2, 3)):
            self.assertIs(Rule().broken(load, cell), False)
        self.assertEqual(len(faults_of(load)), 4 * 4 + 2)


class Sums(unittest.TestCase):
    """Strength and height, which bound a sum of the boxes of a part up to the cell."""

    def asked(self, rule, place, bound, numbers):
        """The tiers where the rule is broken, with the numbers as weights or as heights; all else bears anything."""
        if rule is Strength:
            ship = wide_ship(part(9, bound, GREAT, tuple(range(9)), GREAT), place)
            boxes = [box(named(at), number, GREAT // 9) for at, number in enumerate(numbers)]
        else:
            ship = wide_ship(part(9, GREAT, bound, tuple(range(9)), GREAT), place)
            boxes = [box(named(at), GREAT // 99, number) for at, number in enumerate(numbers)]
        # Boxes around the part are not to count.
        beside = [((place[0], 1 - place[1], place[2], 0), box("beside", 7, 7)),
                  ((1 - place[0], place[1], place[2], 0), box("ahead", 7, 7)),
                  ((place[0], place[1], 1 - place[2], 0), box("other", 7, 7))]
        load = Load(ship, stacked(place, boxes) + beside)
        for cell, told in beside:
            self.assertIs(rule().broken(load, cell), False)
        tiers = broken_tiers(rule(), load, place, len(numbers))
        word = rule().word()
        self.assertEqual([fault for fault in faults_of(load) if fault[0] == word],
                         [(word, place + (tier,)) for tier in tiers])
        return tiers

    def test_at_below_and_beyond_the_bound(self):
        rows = [(10, [10], []), (10, [9], []), (10, [11], [0]), (0, [0], []), (0, [1], [0]), (0, [0, 0, 1], [2]),
                (10, [4, 3, 3], []), (10, [4, 3, 2], []), (10, [4, 3, 4], [2]),
                (10, [4, 7, 0], [1, 2]), (10, [11, 0, 0], [0, 1, 2]), (10, [0, 0, 11], [2]),
                (10, [5, 5, 1, 0], [2, 3]), (10, [3, 3, 3, 1, 1], [4]),
                (8, [1] * 9, [8]), (9, [1] * 9, []), (4, [1] * 9, [4, 5, 6, 7, 8])]
        for rule in (Strength, Height):
            for place in ((0, 0, 0), (0, 1, 1), (1, 0, 1), (1, 1, 0)):
                for bound, numbers, tiers in rows:
                    with self.subTest(rule=rule.__name__, place=place, bound=bound, numbers=numbers):
                        self.assertEqual(self.asked(rule, place, bound, numbers), tiers)

    def test_great_numbers(self):
        for rule in (Strength, Height):
            for bound, numbers, tiers in ((GREAT, [GREAT], []), (GREAT, [GREAT - 1, 1], []), (GREAT, [GREAT, 1], [1]),
                                          (GREAT - 1, [GREAT, GREAT], [0, 1]), (GREAT - 1, [1, GREAT - 1], [1])):
                with self.subTest(rule=rule.__name__, numbers=numbers):
                    self.assertEqual(self.asked(rule, (0, 1, 0), bound, numbers), tiers)

    def test_kinds(self):
        for rule, odd in ((Strength, part(9, 4)), (Height, part(9, 50, 2))):
            load = Load(wide_ship(odd), [((0, 0, 0, 0), box("a")), ((0, 1, 0, 0), box("b"))])
            self.assertIs(rule().broken(load, (0, 0, 0, 0)), True)
            self.assertIs(rule().broken(load, (0, 1, 0, 0)), False)


class Lashes(unittest.TestCase):
    def asked(self, lash, weights, place=(0, 1, 1)):
        load = Load(wide_ship(part(9, GREAT, GREAT, (), lash), place),
                    stacked(place, [box(named(at), weight) for at, weight in enumerate(weights)]))
        tiers = broken_tiers(Lash(), load, place, len(weights))
        self.assertEqual(faults_of(load), [("lash", place + (tier,)) for tier in tiers])
        return tiers

    def test_each_weight_as_often_as_its_tier_and_one(self):
        rows = [(5, [5], []), (4, [5], [0]), (6, [5], []), (0, [0, 0], []), (0, [1], [0]),
                (5 + 2 * 4, [5, 4], []), (5 + 2 * 4 - 1, [5, 4], [1]), (5 + 2 * 4 + 1, [5, 4], []),
                (5 + 8 + 9, [5, 4, 3], []), (5 + 8 + 8, [5, 4, 3], [2]), (12, [5, 4, 3], [1, 2]),
                (4, [5, 0, 0], [0, 1, 2]), (45, [1] * 9, []), (44, [1] * 9, [8]), (28, [1] * 9, [7, 8])]
        for lash, weights, tiers in rows:
            with self.subTest(lash=lash, weights=weights):
                self.assertEqual(self.asked(lash, weights), tiers)

    def test_the_order_of_the_weights_counts(self):
        self.assertEqual(self.asked(11, [9, 1]), [])
        self.assertEqual(self.asked(11, [1, 9]), [1])

    def test_never_in_the_hold(self):
        for place in ((0, 0, 0), (1, 2, 0)):
            self.assertEqual(self.asked(0, [5, 4, 3], place), [])

    def test_every_deck_part(self):
        for place in ((0, 0, 1), (0, 2, 1), (1, 0, 1), (1, 1, 1)):
            self.assertEqual(self.asked(12, [5, 4, 0], place), [1, 2])

    def test_great_numbers(self):
        self.assertEqual(self.asked(GREAT, [GREAT]), [])
        self.assertEqual(self.asked(GREAT - 1, [GREAT]), [0])
        half = GREAT // 2
        self.assertEqual(self.asked(GREAT, [GREAT - 2 * half, half]), [])
        self.assertEqual(self.asked(GREAT, [GREAT - 2 * half + 1, half]), [1])

    def test_the_hold_beneath_and_other_parts_do_not_count(self):
        load = Load(wide_ship(part(9, GREAT, GREAT, (), 5), (0, 1, 1)),
                    [((0, 1, 1, 0), box("a", 5)), ((0, 1, 0, 0), box("b", 5)), ((0, 0, 1, 0), box("c", 5)),
                     ((1, 1, 1, 0), box("d", 5))])
        self.assertIs(Lash().broken(load, (0, 1, 1, 0)), False)
        self.assertEqual(faults_of(load), [])


class ColdBoxes(unittest.TestCase):
    def test_with_and_without_a_plug(self):
        for place in ((0, 0, 0), (0, 0, 1), (1, 1, 0), (1, 2, 1)):
            for plugs in ([], [0], [1], [2], [0, 2], [1, 2], [0, 1, 2]):
                for colds in itertools.product((0, 1), repeat=3):
                    boxes = [box(named(at), cold=cold) for at, cold in enumerate(colds)]
                    load = Load(wide_ship(part(3, plugs=plugs), place), stacked(place, boxes))
                    told = [tier for tier in range(3) if colds[tier] == 1 and tier not in plugs]
                    with self.subTest(place=place, plugs=plugs, colds=colds):
                        self.assertEqual(broken_tiers(Cold(), load, place, 3), told)
                        self.assertEqual(faults_of(load), [("cold", place + (tier,)) for tier in told])

    def test_kinds(self):
        load = Load(wide_ship(part(plugs=[0])), stacked((0, 0, 0), [box("a", cold=1), box("b", cold=1), box("c")]))
        self.assertIs(Cold().broken(load, (0, 0, 0, 0)), False)
        self.assertIs(Cold().broken(load, (0, 0, 0, 1)), True)
        self.assertIs(Cold().broken(load, (0, 0, 0, 2)), False)

    def test_the_plugs_of_the_other_part_do_not_help(self):
        ship = Ship(*ship_args([[(part(plugs=[0]), part(plugs=[1]))]]))
        load = Load(ship, stacked((0, 0, 0), [box("a"), box("b", cold=1)]) + stacked((0, 0, 1), [box("c", cold=1)]))
        self.assertEqual(faults_of(load), [("cold", (0, 0, 0, 1)), ("cold", (0, 0, 1, 0))])


class Foes(unittest.TestCase):
    def full_but(self, foes, odd):
        """All cells of three tiers hold tea, but for the odd sorts by their cells."""
        cells = list(itertools.product((0, 1), (0, 1, 2), (0, 1), (0, 1, 2)))
        placed = [(cell, box(named(at // 26) + named(at % 26)[3:], sort=odd.get(cell, "tea")))
                  for at, cell in enumerate(cells)]
        return Load(wide_ship(foes=foes), placed)

    def apart(self, load):
        told = [cell for cell, one in load.placed if Apart().broken(load, cell)]
        self.assertEqual(faults_of(load), [("apart", cell) for cell in told])
        return told

    def test_all_boxes_near_a_foe_and_the_foe_itself(self):
        for centre in itertools.product((0, 1), (0, 1, 2), (0, 1), (0, 1, 2)):
            load = self.full_but([("tea", "oil")], {centre: "oil"})
            told = [cell for cell, one in load.placed if cell == centre or near(cell, centre)]
            with self.subTest(centre):
                self.assertEqual(self.apart(load), told)

    def test_told_in_either_order(self):
        for foes in ([("tea", "oil")], [("oil", "tea")], [("oil", "tea"), ("tea", "oil")],
                     [("a", "b"), ("oil", "tea")], [("tea", "oil"), ("a", "b")]):
            load = self.full_but(foes, {(0, 0, 0, 0): "oil"})
            with self.subTest(foes):
                self.assertEqual(self.apart(load), [(0, 0, 0, 0), (0, 0, 0, 1), (0, 1, 0, 0), (0, 1, 0, 1)])

    def test_sorts_that_are_no_foes(self):
        for foes in ([], [("oil", "silk")], [("silk", "tea")], [("oil", "oil")], [("te", "oil"), ("tea", "oi")]):
            with self.subTest(foes):
                self.assertEqual(self.apart(self.full_but(foes, {(1, 1, 1, 1): "oil"})), [])

    def test_foes_of_a_foe_are_no_foes(self):
        odd = {(0, 0, 0, 0): "oil", (0, 0, 0, 1): "silk"}
        self.assertEqual(self.apart(self.full_but([("oil", "coal"), ("coal", "silk")], odd)), [])

    def test_a_sort_that_is_its_own_foe(self):
        foes = [("oil", "oil")]
        self.assertEqual(self.apart(self.full_but(foes, {(0, 1, 0, 1): "oil"})), [])
        for other in itertools.product((0, 1), (0, 1, 2), (0, 1), (0, 1, 2)):
            if other == (0, 1, 0, 1):
                continue
            load = self.full_but(foes, {(0, 1, 0, 1): "oil", other: "oil"})
            told = [cell for cell, one in load.placed if cell in (other, (0, 1, 0, 1)) and near(other, (0, 1, 0, 1))]
            with self.subTest(other):
                self.assertEqual(self.apart(load), told)

    def test_foes_that_are_not_near(self):
        for one, other in (((0, 0, 0, 0), (0, 2, 0, 0)), ((0, 0, 0, 0), (1, 0, 0, 0)), ((0, 0, 0, 0), (0, 0, 1, 0)),
                           ((0, 0, 1, 0), (0, 2, 1, 0)), ((0, 0, 1, 0), (1, 1, 1, 0))):
            load = Load(wide_ship(foes=[("tea", "oil")]), [(one, box("a")), (other, box("b", sort="oil"))])
            with self.subTest(one=one, other=other):
                self.assertEqual(self.apart(load), [])
        column = [box("a"), box("b", sort="silk"), box("c", sort="oil")]
        self.assertEqual(self.apart(Load(wide_ship(foes=[("tea", "oil")]), stacked((0, 0, 0), column))), [])

    def test_two_boxes_alone(self):
        for one, other in (((0, 0, 0, 0), (0, 0, 0, 1)), ((0, 0, 0, 0), (0, 1, 0, 0)), ((1, 1, 1, 0), (1, 2, 1, 0))):
            load = Load(wide_ship(foes=[("oil", "tea")]), [(one, box("a")), (other, box("b", sort="oil"))])
            self.assertEqual(self.apart(load), [one, other])
            self.assertIs(Apart().broken(load, one), True)

    def test_each_bay_and_stack_of_the_greatest_ship(self):
        ship = Ship(*ship_args([[(WIDE, WIDE)] * 8] * 8, [("oil", "tea")]))
        for bay, stack, deck in itertools.product(range(8), range(8), (0, 1)):
            for other in (stack - 1, stack + 1):
                if other not in range(8):
                    continue
                load = Load(ship, [((bay, stack, deck, 0), box("a", sort="oil")), ((bay, other, deck, 0), box("b"))])
                with self.subTest(bay=bay, stack=stack, deck=deck, other=other):
                    self.assertEqual(self.apart(load), [(bay, min(stack, other), deck, 0),
                                                        (bay, max(stack, other), deck, 0)])

    def test_the_stack_before_the_first_is_not_the_last(self):
        ship = Ship(*ship_args([[(WIDE, WIDE)] * 8], [("oil", "oil")]))
        load = Load(ship, [((0, 0, 0, 0), box("a", sort="oil")), ((0, 7, 0, 0), box("b", sort="oil"))])
        self.assertEqual(self.apart(load), [])


class NoBoxThere(unittest.TestCase):
    def test_at_empty_cells_and_at_strange_ones(self):
        nothing = part(2, 0, 0, (), 0)
        ship = Ship(*ship_args([[(nothing, nothing)] * 2], [("oil", "oil")], 0, 0))
        load = Load(ship, [((0, stack, deck, 0), box(named(2 * stack + deck), 9, 9, 1, "oil"))
                           for stack in (0, 1) for deck in (0, 1)])
        empty = [(0, 0, 0, 1), (0, 1, 0, 1), (0, 0, 1, 1), (0, 1, 1, 1)]
        strange = [(0, 0, 0, 2), (0, 0, 0, -1), (0, 0, 1, 2), (0, 2, 0, 0), (0, -1, 1, 0), (1, 0, 0, 0),
                   (-1, 0, 0, 0), (0, 0, 2, 0), (0, 0, -1, 0), (0, 0, 0, GREAT), (0, GREAT, 0, 0), (GREAT, 0, 1, 0),
                   (0, 0, GREAT, 0), (0, 0, 1, -GREAT)]
        for rule in RULES + [Rule]:
            for cell in empty + strange:
                with self.subTest(rule=rule.__name__, cell=cell):
                    self.assertIs(rule().broken(load, cell), False)

    def test_in_the_empty_load(self):
        load = Load(Ship(*uneven_ship_args()), [])
        for rule in RULES + [Rule]:
            for cell in UNEVEN_CELLS + NOT_CELLS:
                self.assertIs(rule().broken(load, cell), False)


class Faults(unittest.TestCase):
    def setUp(self):
        self.nothing = part(2, 0, 0, (), 0)
        self.ship = Ship(*ship_args([[(self.nothing, self.nothing)] * 2] * 2, [("oil", "oil")], 0, 0))
        self.cells = [(bay, stack, deck, tier) for bay in (0, 1) for deck in (0, 1)
                      for stack in (0, 1) for tier in (0, 1)]

    def test_order_by_cells_and_at_each_by_rules(self):
        placed = [(cell, box(named(at), 1, 1, 1, "oil")) for at, cell in enumerate(self.cells)]
        told = [(word, cell) for cell in self.cells for word in WORDS if word != "lash" or cell[2] == 1]
        self.assertEqual(faults_of(Load(self.ship, placed[::-1])), told)

    def test_each_choice_of_faults_at_one_cell(self):
        for chosen in itertools.product((0, 1), repeat=5):
            strong, high, plug, foe, lashed = chosen
            odd = part(2, 5 - strong, 3 - high, () if plug else (0,), 5 - lashed)
            ship = Ship(*ship_args([[(WIDE, odd), (WIDE, WIDE)]], [("oil", "tea")] if foe else []))
            load = Load(ship, [((0, 0, 1, 0), box("a", 5, 3, 1)), ((0, 1, 1, 0), box("b", sort="oil"))])
            told = [(word, (0, 0, 1, 0)) for word, due in zip(WORDS, chosen) if due]
            told += [("apart", (0, 1, 1, 0))] if foe else []
            with self.subTest(chosen):
                self.assertEqual(faults_of(load), told)
                self.assertIs(sound(load), told == [])

    def test_kinds(self):
        told = faults_of(Load(self.ship, [((0, 0, 0, 0), box("a"))]))
        self.assertEqual(told, [("strength", (0, 0, 0, 0)), ("height", (0, 0, 0, 0))])
        self.assertIs(type(told), list)
        self.assertEqual([type(fault) for fault in told], [tuple, tuple])

    def test_no_fault(self):
        self.assertEqual(faults_of(Load(self.ship, [])), [])
        self.assertIs(sound(Load(self.ship, [])), True)
        light = Load(self.ship, [((1, 1, 1, 0), box("a", 0, 0, 0))])
        self.assertEqual(faults_of(light), [])
        self.assertIs(sound(light), True)

    def test_a_fault_anywhere(self):
        for cell in self.cells:
            for weight, height, cold in ((1, 0, 0), (0, 1, 0), (0, 0, 1)):
                beneath = [(cell[:3] + (0,), box("beneath", 0, 0, 0))] if cell[3] == 1 else []
                load = Load(self.ship, beneath + [(cell, box("odd", weight, height, cold))])
                with self.subTest(cell=cell, box=(weight, height, cold)):
                    self.assertIs(sound(load), False)

    def test_neither_moments_nor_hatches_are_asked(self):
        ship = Ship(*ship_args([[(WIDE, WIDE)]], [], 0, 0))
        self.assertIs(sound(Load(ship, [((0, 0, 1, 0), box("a"))])), True)

    def test_some_boxes_of_a_sound_load(self):
        hold, deck = part(3, 10, 9, (1,), 0), part(2, 7, 6, (0,), 11)
        ship = Ship(*ship_args([[(hold, deck)] * 2], [("oil", "tea"), ("coal", "coal")]))
        placed = (stacked((0, 0, 0), [box("a", 4), box("b", 4, cold=1), box("c", 2, sort="silk")])
                  + stacked((0, 1, 0), [box("d", 6), box("e", 4, 6)])
                  + stacked((0, 0, 1), [box("f", 3, 3, 1, "coal"), box("g", 4)])
                  + stacked((0, 1, 1), [box("h", 5, 6, 0)]))
        self.assertIs(sound(Load(ship, placed)), True)
        loads = 0
        for kept in itertools.product((False, True), repeat=len(placed)):
            some = [pair for pair, one in zip(placed, kept) if one]
            try:
                load = Load(ship, some)
            except NoLoad:
                continue
            loads += 1
            self.assertIs(sound(load), True)
        self.assertEqual(loads, 4 * 3 * 3 * 2)


if __name__ == "__main__":
    unittest.main()
