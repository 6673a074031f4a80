"""[27] to [31]: boxes in the way, the best filling, and the paper that shows that none is better."""

import itertools
import random
import time
import unittest

from samples import GREAT, bar_by_words, box, chance_ship, great_box, great_ship, named, part, plain_ship, ship_args
from stowhold.errors import NoFilling, NoLoad, Twice
from stowhold.fillings import best_filling, in_the_way
from stowhold.loads import Load, box_at, cell_of
from stowhold.places import free_places
from stowhold.rules import Apart, Cold, Height, Lash, Strength, faults_of
from stowhold.ships import Ship, cells_of, parts_of


def ship_of(*stacks, foes=()):
    """A ship of one bay."""
    return Ship(*ship_args([stacks], foes))


def ports_at(ship, ports):
    """A load of boxes by their cells' ports; the names follow the order in which they are told."""
    return Load(ship, [(cell, box(named(at), port=port)) for at, (cell, port) in enumerate(ports.items())])


def stands_beneath(cell, other):
    if cell[:3] == other[:3]:
        return other[3] < cell[3]
    return cell[2] == 1 and other[2] == 0 and cell[0] == other[0]


def in_the_way_by_words(load):
    """Each box held against each other one, as [27] says it."""
    pairs = [(cell, box_at(load, cell)) for cell in cells_of(load.ship) if box_at(load, cell) is not None]
    return [one[0] for cell, one in pairs
            if any(stands_beneath(cell, beneath) and other[5] < one[5] for beneath, other in pairs)]


def is_filling(load, boxes, cells):
    """Whether the boxes at these cells are a filling, as [28] says it."""
    try:
        filled = Load(load.ship, load.placed + tuple(zip(cells, boxes)))
    except NoLoad:
        return False
    shut = {cell[0] for cell, one in load.placed if cell[2] == 1}
    if any(cell[2] == 0 and cell[0] in shut for cell in cells):
        return False
    return not any(rule.broken(filled, cell) and not rule.broken(load, cell)
                   for rule in (Strength(), Height(), Cold(), Apart(), Lash()) for cell in cells_of(load.ship))


def all_fillings(load, boxes):
    """All of them, by trying every cell for every box."""
    empty = [cell for cell in cells_of(load.ship) if box_at(load, cell) is None]
    tried = itertools.permutations(empty, len(boxes))
    return [Load(load.ship, load.placed + tuple(zip(cells, boxes))) for cells in tried
            if is_filling(load, boxes, cells)]


def told_of(load, boxes):
    """The filling, or None, and the paper."""
    try:
        return best_filling(load, boxes)
    except NoFilling as refusal:
        return None, refusal.paper


def papers_in(paper):
    """The paper and all papers within it."""
    yield paper
    if paper[0] == "part":
        for name, put in paper[1]:
            if not isinstance(put, str):
                yield from papers_in(put)
        yield from papers_in(paper[2])


def forms_in(paper):
    return {one[0] for one in papers_in(paper)}


def met_by(paper, load, filling):
    """The form to which one comes who follows the paper with a filling of the load; a word where a word bars it."""
    for name_part in parts_of(load.ship):
        for cell in [cell for cell in cells_of(load.ship) if cell[:3] == name_part]:
            if box_at(load, cell) is None and box_at(filling, cell) is not None:
                if paper[0] != "part":
                    return paper[0]
                paper = dict(paper[1])[box_at(filling, cell)[0]]
                if isinstance(paper, str):
                    return paper
        if paper[0] != "part":
            return paper[0]
        paper = paper[2]
    return paper[0]


class Fillings(unittest.TestCase):
    """What tests of fillings ask of a paper."""

    def check_paper(self, paper, load, boxes, best, at=0):
        """Each form of a paper where it is due and only there, as [30] says it; best is None where no filling is."""
        self.assertIsInstance(paper, tuple)
        if paper[0] == "cut":
            self.assertEqual(paper, ("cut", len(in_the_way_by_words(load))))
            self.assertIsNotNone(best)
            self.assertLessEqual(best, paper[1])
        elif paper[0] == "done":
            self.assertEqual((paper, boxes), (("done",), []))
            self.assertIsNotNone(best)
            self.assertLessEqual(best, len(in_the_way_by_words(load)))
        elif paper[0] == "lost":
            self.assertEqual((paper, at), (("lost",), len(parts_of(load.ship))))
            self.assertNotEqual(boxes, [])
        else:
            self.assertEqual((paper[0], len(paper)), ("part", 3))
            self.assertNotEqual(boxes, [])
            self.assertIsInstance(paper[1], list)
            self.assertEqual([name for name, put in paper[1]], [one[0] for one in boxes])
            for pair, one in zip(paper[1], boxes):
                self.check_put(pair, load, boxes, one, best, at)
            self.check_paper(paper[2], load, boxes, best, at + 1)

    def check_put(self, pair, load, boxes, one, best, at):
        self.assertIsInstance(pair, tuple)
        cells = [cell for cell in cells_of(load.ship) if cell[:3] == parts_of(load.ship)[at]]
        empty = [cell for cell in cells if box_at(load, cell) is None]
        if not empty or empty[0] not in free_places(load):
            self.assertEqual(pair, (one[0], "place"))
            return
        word = bar_by_words(load, empty[0], one)
        if word is not None:
            self.assertEqual(pair, (one[0], word))
            return
        behind = Load(load.ship, load.placed + ((empty[0], one),))
        self.check_paper(pair[1], behind, [other for other in boxes if other[0] != one[0]], best, at)

    def check_told(self, load, boxes):
        """All that [28] to [31] promise, for a ship so small that all fillings can be tried; tells the filling."""
        fillings = all_fillings(load, boxes)
        filled, paper = told_of(load, boxes)
        if not fillings:
            self.assertIsNone(filled)
            self.assertEqual(forms_in(paper) & {"cut", "done"}, set())
            self.check_paper(paper, load, boxes, None)
            return None
        best = min(len(in_the_way_by_words(filling)) for filling in fillings)
        self.assertIsInstance(filled, Load)
        self.assertIn(filled.placed, [filling.placed for filling in fillings])
        self.assertEqual(len(in_the_way_by_words(filled)), best)
        self.check_paper(paper, load, boxes, best)
        for filling in fillings:
            self.assertIn(met_by(paper, load, filling), ("cut", "done"))
        return filled


class InTheWay(unittest.TestCase):
    def test_kinds(self):
        ship = plain_ship()
        self.assertEqual(in_the_way(Load(ship, [])), [])
        told = in_the_way(ports_at(ship, {(0, 0, 0, 0): 1, (0, 0, 0, 1): 2}))
        self.assertIsInstance(told, list)
        self.assertEqual(told, ["boxb"])

    def test_an_earlier_port_right_beneath(self):
        ship = plain_ship()
        for deck in (0, 1):
            told = in_the_way(ports_at(ship, {(1, 2, deck, 0): 3, (1, 2, deck, 1): 4}))
            self.assertEqual(told, ["boxb"])

    def test_an_earlier_port_farther_beneath(self):
        ship = plain_ship()
        for deck in (0, 1):
            told = in_the_way(ports_at(ship, {(0, 1, deck, 0): 3, (0, 1, deck, 1): 9, (0, 1, deck, 2): 4}))
            self.assertEqual(told, ["boxb", "boxc"])
            told = in_the_way(ports_at(ship, {(0, 1, deck, 0): 3, (0, 1, deck, 1): 2, (0, 1, deck, 2): 3}))
            self.assertEqual(told, ["boxc"])

    def test_the_same_port_and_a_later_one_beneath(self):
        ship = plain_ship()
        for deck in (0, 1):
            for beneath in (4, 5, GREAT):
                told = in_the_way(ports_at(ship, {(0, 0, deck, 0): beneath, (0, 0, deck, 1): 4}))
                self.assertEqual(told, [])

    def test_on_deck_above_the_hold_of_its_bay_whatever_the_stack(self):
        ship = plain_ship()
        for bay, stack, other in itertools.product(range(2), range(3), range(3)):
            for tier in range(3):
                ports = {(bay, stack, 0, lower): 9 for lower in range(tier)}
                ports.update({(bay, stack, 0, tier): 3, (bay, other, 1, 0): 4})
                self.assertEqual(in_the_way(ports_at(ship, ports)), [named(tier + 1)])
                ports[bay, other, 1, 0] = 3
                self.assertEqual(in_the_way(ports_at(ship, ports)), [])

    def test_each_box_on_deck_above_a_hold(self):
        ship = plain_ship()
        told = in_the_way(ports_at(ship, {(0, 1, 0, 0): 3, (0, 0, 1, 0): 4, (0, 0, 1, 1): 3, (0, 2, 1, 0): 3,
                                          (0, 2, 1, 1): 2, (0, 2, 1, 2): 4}))
        self.assertEqual(told, ["boxb", "boxf"])

    def test_on_deck_above_the_hold_of_another_bay(self):
        ship = plain_ship()
        self.assertEqual(in_the_way(ports_at(ship, {(0, 0, 0, 0): 3, (1, 0, 1, 0): 4})), [])
        self.assertEqual(in_the_way(ports_at(ship, {(1, 0, 0, 0): 3, (0, 0, 1, 0): 4})), [])

    def test_in_the_hold_by_the_deck(self):
        ship = plain_ship()
        for stack in range(3):
            self.assertEqual(in_the_way(ports_at(ship, {(0, 1, 0, 0): 4, (0, stack, 1, 0): 3})), [])

    def test_another_stack_of_the_same_level(self):
        ship = plain_ship()
        for deck in (0, 1):
            told = in_the_way(ports_at(ship, {(0, 0, deck, 0): 1, (0, 1, deck, 0): 2, (0, 1, deck, 1): 2}))
            self.assertEqual(told, [])

    def test_a_box_above_counts_for_nothing(self):
        ship = plain_ship()
        told = in_the_way(ports_at(ship, {(0, 0, 0, 0): 5, (0, 0, 0, 1): 1, (0, 0, 0, 2): 1}))
        self.assertEqual(told, [])

    def test_the_order_of_cells_and_each_once(self):
        ship = plain_ship()
        ports = {(1, 0, 0, 1): 2, (1, 0, 0, 0): 1, (0, 2, 1, 0): 9, (0, 0, 1, 1): 8, (0, 0, 1, 0): 7, (0, 1, 0, 2): 6,
                 (0, 1, 0, 1): 5, (0, 1, 0, 0): 4, (0, 0, 0, 0): 3}
        self.assertEqual(in_the_way(ports_at(ship, ports)), ["boxg", "boxf", "boxe", "boxd", "boxc", "boxa"])

    def test_port_nought_and_sixty_figures(self):
        ship = plain_ship()
        self.assertEqual(in_the_way(ports_at(ship, {(0, 0, 0, 0): 0, (0, 0, 0, 1): 0, (0, 0, 0, 2): 1})), ["boxc"])
        told = in_the_way(ports_at(ship, {(0, 0, 0, 0): GREAT - 1, (0, 0, 0, 1): GREAT, (1, 0, 0, 0): GREAT,
                                          (1, 0, 1, 0): GREAT - 1}))
        self.assertEqual(told, ["boxb"])

    def test_other_things_than_ports_count_for_nothing(self):
        ship = plain_ship()
        load = Load(ship, [((0, 0, 0, 0), box("a", 9, 9, 1, "oil", 5)), ((0, 0, 0, 1), box("b", 1, 1, 0, "tea", 5)),
                           ((0, 1, 0, 0), box("d", 1, 1, 0, "oil", 5)), ((0, 1, 0, 1), box("c", 9, 9, 1, "tea", 5))])
        self.assertEqual(in_the_way(load), [])

    def test_by_chance(self):
        chance, some = random.Random(27), 0
        for at in range(200):
            load = chance_load(chance, chance_ship(chance, 3, []), 5)
            told = in_the_way(load)
            self.assertEqual(told, in_the_way_by_words(load))
            some += 0 < len(told) < len(load.placed)
        self.assertGreater(some, 100)

    def test_at_the_bounds(self):
        ship = great_ship()
        cells = cells_of(ship)[:100]
        load = Load(ship, [(cell, great_box(at)[:5] + (GREAT - at % 7,)) for at, cell in enumerate(cells)])
        self.assertEqual(in_the_way(load), in_the_way_by_words(load))


def chance_box(chance, name, ports):
    return box(name, chance.randrange(5), chance.randrange(5), chance.randrange(5) // 4,
               chance.choice(["tea", "oil", "silk"]), chance.randrange(ports))


def chance_load(chance, ship, ports, most=26):
    """A load that may be unsound; one deck in two is empty."""
    cells = []
    decks = [chance.choice([(0,), (0, 1)]) for bay in ship.bays]
    for name_part in parts_of(ship):
        if name_part[2] in decks[name_part[0]]:
            here = [cell for cell in cells_of(ship) if cell[:3] == name_part]
            cells += here[:chance.randrange(len(here) + 1)]
    return Load(ship, [(cell, chance_box(chance, named(at), ports)) for at, cell in enumerate(cells[:most])])


class Best(Fillings):
    def test_kinds(self):
        ship = plain_ship()
        told = best_filling(Load(ship, []), [box("a")])
        self.assertIsInstance(told, tuple)
        self.assertEqual(len(told), 2)
        self.assertIsInstance(told[0], Load)
        self.assertIs(told[0].ship, ship)
        self.assertIsInstance(told[1], tuple)

    def test_no_boxes(self):
        ship = plain_ship()
        for load in (Load(ship, []), ports_at(ship, {(0, 0, 0, 0): 1}),
                     ports_at(ship, {(0, 0, 0, 0): 1, (0, 0, 0, 1): 2, (0, 2, 1, 0): 3}),
                     Load(ship, [((0, 0, 1, 0), box("a", 99, 99, 1))])):
            filled, paper = best_filling(load, [])
            self.assertEqual(filled.placed, load.placed)
            self.assertIn(paper, (("done",), ("cut", len(in_the_way(load)))))

    def test_no_boxes_and_no_cells(self):
        load = Load(ship_of((part(0), part(0))), [])
        filled, paper = best_filling(load, [])
        self.assertEqual(filled.placed, ())
        self.assertIn(paper, (("done",), ("cut", 0)))

    def test_a_later_port_goes_beneath(self):
        ship = ship_of((part(3), part(0)))
        for boxes in itertools.permutations([box("a", port=1), box("b", port=2), box("c", port=3)]):
            filled = self.check_told(Load(ship, []), list(boxes))
            self.assertEqual([one[0] for cell, one in filled.placed], ["c", "b", "a"])

    def test_the_fewest_is_one_where_none_is_out_of_the_way(self):
        ship = ship_of((part(3), part(1)))
        load = ports_at(ship, {(0, 0, 0, 0): 2})
        filled = self.check_told(load, [box("a", port=3), box("b", port=1)])
        self.assertEqual(in_the_way(filled), ["a"])

    def test_those_of_the_load_are_counted_too(self):
        ship = Ship(*ship_args([[(part(2), part(1))], [(part(1), part(0))]]))
        load = ports_at(ship, {(0, 0, 0, 0): 5, (0, 0, 0, 1): 6})
        filled = self.check_told(load, [box("x", port=4)])
        self.assertEqual(in_the_way(filled), ["boxb"])
        paper = best_filling(load, [box("x", port=4)])[1]
        self.assertEqual({one for one in papers_in(paper) if one[0] == "cut"} - {("cut", 1)}, set())

    def test_no_box_into_a_hold_beneath_a_deck_where_the_load_has_a_box(self):
        ship = Ship(*ship_args([[(part(2), part(1)), (part(2), part(1))], [(part(1), part(1))]]))
        for stack in range(2):
            load = ports_at(ship, {(0, stack, 1, 0): 1})
            filled = self.check_told(load, [box("a"), box("b"), box("c")])
            self.assertEqual({cell for cell, one in filled.placed},
                             {(0, 0, 1, 0), (0, 1, 1, 0), (1, 0, 0, 0), (1, 0, 1, 0)})
            self.assertIsNone(self.check_told(load, [box("a"), box("b"), box("c"), box("d")]))

    def test_a_box_that_is_filled_in_on_deck_shuts_no_hold(self):
        ship = ship_of((part(1, 5), part(1, 9)))
        for boxes in ([box("a", 9), box("b", 5)], [box("b", 5), box("a", 9)]):
            filled = self.check_told(Load(ship, []), boxes)
            self.assertEqual((cell_of(filled, "a"), cell_of(filled, "b")), ((0, 0, 1, 0), (0, 0, 0, 0)))

    def test_a_rule_that_is_broken_already_is_no_hindrance(self):
        """Each rule is broken at a cell of the load, and the filling stands near it or above it."""
        ship = ship_of((part(1, 4, 2), part(0)), (part(1), part(1, 50, 40, (), 3)), foes=[("oil", "oil")])
        load = Load(ship, [((0, 0, 0, 0), box("a", 5, 3, 1, "oil")), ((0, 1, 0, 0), box("b", 5, 3, 0, "oil"))])
        self.assertEqual({word for word, cell in faults_of(load)}, {"strength", "height", "cold", "apart"})
        filled = self.check_told(load, [box("c", 3)])
        self.assertEqual((cell_of(filled, "c"), faults_of(filled)), ((0, 1, 1, 0), faults_of(load)))
        deck = ship_of((part(0), part(1, 50, 40, (), 3)), (part(0), part(1)))
        load = Load(deck, [((0, 0, 1, 0), box("a", 4))])
        self.assertEqual(faults_of(load), [("lash", (0, 0, 1, 0))])
        self.assertEqual(cell_of(self.check_told(load, [box("b")]), "b"), (0, 1, 1, 0))

    def test_apart_that_is_broken_already_is_no_hindrance_by_itself(self):
        ship = ship_of((part(2), part(0)), (part(1), part(0)), foes=[("oil", "wine")])
        load = Load(ship, [((0, 0, 0, 0), box("a", sort="oil")), ((0, 1, 0, 0), box("b", sort="wine"))])
        self.assertEqual(len(faults_of(load)), 2)
        self.assertEqual(cell_of(self.check_told(load, [box("c")]), "c"), (0, 0, 0, 1))
        # One more foe breaks the rule at its own cell, where it was not broken.
        self.assertIsNone(self.check_told(load, [box("c", sort="oil")]))

    def test_a_sum_that_is_too_great_already_bars_a_box_upon_it(self):
        ship = ship_of((part(2, 4), part(0)))
        load = Load(ship, [((0, 0, 0, 0), box("a", 5))])
        self.assertIsNone(self.check_told(load, [box("b", 0)]))

    def test_a_rule_that_is_broken_at_another_cell_only_by_the_filling(self):
        ship = ship_of((part(1), part(0)), (part(1), part(0)), (part(1), part(0)), foes=[("tea", "oil")])
        load = Load(ship, [((0, 0, 0, 0), box("a"))])
        for boxes in ([box("b", sort="oil"), box("c", sort="silk")], [box("c", sort="silk"), box("b", sort="oil")]):
            filled = self.check_told(load, boxes)
            self.assertEqual(cell_of(filled, "b"), (0, 2, 0, 0))
        self.assertIsNone(self.check_told(load, [box("b", sort="oil"), box("c")]))

    def test_boxes_that_are_foes_of_one_another(self):
        ship = ship_of((part(1), part(0)), (part(1), part(0)), (part(1), part(0)), foes=[("oil", "oil")])
        filled = self.check_told(Load(ship, []), [box("a", sort="oil"), box("b"), box("c", sort="oil")])
        self.assertEqual(cell_of(filled, "b"), (0, 1, 0, 0))

    def test_moments_are_not_asked(self):
        ship = Ship(*ship_args([[(part(1), part(0))]], (), 0, 0))
        self.assertEqual(cell_of(best_filling(Load(ship, []), [box("a", 40)])[0], "a"), (0, 0, 0, 0))

    def test_by_chance(self):
        chance, ways, none = random.Random(28), [], 0
        for at in range(150):
            ship = tiny_ship(chance)
            load = chance_load(chance, ship, 4, 4)
            boxes = [chance_box(chance, name, 4) for name in "zyx"[:chance.choice([1, 2, 2, 3])]]
            filled = self.check_told(load, boxes)
            if filled is None:
                none += 1
            else:
                ways.append(len(in_the_way(filled)) - len(in_the_way(load)))
        self.assertGreater(none, 20)
        self.assertGreater(len([way for way in ways if way > 0]), 20)
        self.assertGreater(len([way for way in ways if way == 0]), 20)

    def test_four_boxes_by_chance(self):
        chance, filled = random.Random(29), 0
        for at in range(12):
            ship = Ship(*ship_args([[(part(2), part(chance.randrange(2)))], [(part(1), part(1))]], [("tea", "oil")]))
            boxes = [box(name, port=chance.randrange(4), sort=chance.choice(["tea", "tea", "tea", "oil"]))
                     for name in "zyxw"]
            filled += self.check_told(Load(ship, []), boxes) is not None
        self.assertGreater(filled, 5)


def tiny_ship(chance):
    """One or two bays of one or two stacks, and no more than seven cells."""
    while True:
        stacks = chance.choice([(1,), (2,), (1, 1)])
        bays = [[(tiny_part(chance), tiny_part(chance)) for stack in range(count)] for count in stacks]
        ship = Ship(*ship_args(bays, chance.choice([[], [("tea", "oil")], [("silk", "silk")]])))
        if len(cells_of(ship)) <= 7:
            return ship


def tiny_part(chance):
    cells = chance.randrange(4)
    plugs = [tier for tier in range(cells) if chance.random() < 0.8]
    return part(cells, chance.randrange(4, 14), chance.randrange(4, 14), plugs, chance.randrange(4, 18))


class Refusals(unittest.TestCase):
    def test_a_name_twice_in_the_boxes(self):
        load = Load(plain_ship(), [])
        for boxes in ([box("a"), box("a")], [box("a"), box("b"), box("a", 6, 4, 1, "oil", 9)]):
            self.assertRaises(Twice, best_filling, load, boxes)

    def test_a_name_in_boxes_and_load(self):
        load = Load(plain_ship(), [((0, 0, 0, 0), box("a"))])
        for boxes in ([box("a")], [box("b"), box("a", 6, 4, 1, "oil", 9)]):
            self.assertRaises(Twice, best_filling, load, boxes)

    def test_twice_ahead_of_no_filling(self):
        load = Load(ship_of((part(1), part(0))), [((0, 0, 0, 0), box("a"))])
        for boxes in ([box("b"), box("b")], [box("a")], [box("b", 99), box("c"), box("a")]):
            self.assertRaises(Twice, best_filling, load, boxes)
        self.assertRaises(NoFilling, best_filling, load, [box("b"), box("c")])

    def test_no_filling_and_its_paper(self):
        with self.assertRaises(NoFilling) as caught:
            best_filling(Load(ship_of((part(0), part(0))), []), [box("a")])
        self.assertEqual(caught.exception.paper,
                         ("part", [("a", "place")], ("part", [("a", "place")], ("lost",))))

    def test_one_box_of_several_that_can_not_stand(self):
        load = Load(plain_ship(), [])
        for boxes in ([box("a", 99), box("b")], [box("b"), box("a", 99)]):
            self.assertRaises(NoFilling, best_filling, load, boxes)


class Papers(Fillings):
    """Where there is no filling, a paper has but one form throughout, so it can be told whole."""

    def paper_of_none(self, load, boxes):
        filled, paper = told_of(load, boxes)
        self.assertIsNone(filled)
        self.check_paper(paper, load, boxes, None)
        return paper

    def test_the_word_of_each_rule(self):
        """A part in the hold and one on deck where the same rule bars the box; lash counts on deck alone."""
        for here, one, word in ((part(1, 4), box("a", 5), "strength"), (part(1, 50, 2), box("a"), "height"),
                                (part(1), box("a", cold=1), "cold")):
            paper = self.paper_of_none(Load(ship_of((here, here)), []), [one])
            self.assertEqual(paper, ("part", [("a", word)], ("part", [("a", word)], ("lost",))))
        paper = self.paper_of_none(Load(ship_of((part(0), part(1, 50, 40, (), 4))), []), [box("a")])
        self.assertEqual(paper, ("part", [("a", "place")], ("part", [("a", "lash")], ("lost",))))
        ship = ship_of((part(1), part(0)), (part(1), part(0)), foes=[("tea", "oil")])
        paper = self.paper_of_none(Load(ship, [((0, 0, 0, 0), box("b"))]), [box("a", sort="oil")])
        self.assertEqual(paper, ("part", [("a", "place")], ("part", [("a", "apart")], (
            "part", [("a", "place")], ("part", [("a", "place")], ("lost",))))))

    def test_the_first_word_of_several(self):
        paper = self.paper_of_none(Load(ship_of((part(1, 4, 2), part(1, 50, 2, (), 4))), []), [box("a", cold=1)])
        self.assertEqual(paper, ("part", [("a", "strength")], ("part", [("a", "height")], ("lost",))))

    def test_place_where_the_part_is_full_or_the_hatch_is_shut(self):
        ship = Ship(*ship_args([[(part(2), part(1))], [(part(1), part(0))]]))
        load = Load(ship, [((0, 0, 0, 0), box("a")), ((0, 0, 1, 0), box("b")), ((1, 0, 0, 0), box("c"))])
        paper = self.paper_of_none(load, [box("x", 99), box("y")])
        place = [("x", "place"), ("y", "place")]
        self.assertEqual(paper, ("part", place, ("part", place, ("part", place, ("part", place, ("lost",))))))

    def test_one_pair_for_each_box_that_is_left_in_the_order_of_the_boxes(self):
        ship = ship_of((part(2, 10), part(0)))
        paper = self.paper_of_none(Load(ship, []), [box("c", 6), box("a", 11), box("b", 4)])
        end = ("part", [("a", "place")], ("lost",))
        self.assertEqual(paper, ("part", [
            ("c", ("part", [("a", "strength"), ("b", ("part", [("a", "place")], end))],
                   ("part", [("a", "place"), ("b", "place")], ("lost",)))),
            ("a", "strength"),
            ("b", ("part", [("c", ("part", [("a", "place")], end)), ("a", "strength")],
                   ("part", [("c", "place"), ("a", "place")], ("lost",))))],
            ("part", [("c", "place"), ("a", "place"), ("b", "place")], ("lost",))))

    def test_a_paper_goes_on_at_the_same_part_and_never_back(self):
        ship = ship_of((part(1, 9), part(0)), (part(1, 5), part(0)))
        paper = self.paper_of_none(Load(ship, []), [box("a", 9), box("b", 9)])
        self.assertEqual(paper[2][1], [("a", "strength"), ("b", "strength")])
        self.assertEqual(dict(paper[1])["a"][1], [("b", "place")])

    def test_boxes_that_are_left_and_boxes_in_the_way(self):
        """A cut tells the count of the load so far, those of the load among them."""
        ship = ship_of((part(4), part(2)))
        load = ports_at(ship, {(0, 0, 0, 0): 1, (0, 0, 0, 1): 2})
        filled, paper = best_filling(load, [box("x", port=3), box("y", port=0), box("z", port=4)])
        self.assertEqual(len(in_the_way_by_words(filled)), 3)
        self.check_paper(paper, load, [box("x", port=3), box("y", port=0), box("z", port=4)], 3)
        cuts = {one[1] for one in papers_in(paper) if one[0] == "cut"}
        self.assertTrue(cuts <= {3, 4, 5})
        self.assertIn("done", forms_in(paper))

    def test_no_box_left_is_done_or_cut(self):
        ship = ship_of((part(1), part(1)))
        filled, paper = best_filling(Load(ship, []), [box("a")])
        self.check_paper(paper, Load(ship, []), [box("a")], 0)
        self.assertIn(dict(paper[1])["a"] if paper[0] == "part" else paper, (("done",), ("cut", 0)))


class Bounds(Fillings):
    """Four boxes, and a ship of a hundred and twenty-eight parts, six of which have nine cells."""

    def great_load(self, six, boxes_in_each, ports):
        great = part(9, 99 * GREAT, 99 * GREAT, tuple(range(9)), 9999 * GREAT)
        none = part(0)
        bays = [[tuple(great if (bay, stack, deck) in six else none for deck in (0, 1)) for stack in range(8)]
                for bay in range(8)]
        ship = Ship(*ship_args(bays, [("oil", "wine")], GREAT, GREAT))
        cells = [name_part + (tier,) for name_part in six if name_part[2] == 0 for tier in range(boxes_in_each)]
        return Load(ship, [(cell, great_box(at)[:5] + (ports,)) for at, cell in enumerate(cells)])

    def check_in_good_time(self, load, boxes, best):
        begun = time.process_time()
        filled, paper = told_of(load, boxes)
        self.assertLess(time.process_time() - begun, 60)
        self.assertEqual(filled and len(in_the_way_by_words(filled)), best)
        self.assertIn(paper[0], ("part", "cut"))
        return paper

    def test_every_box_in_the_way_wherever_it_stands(self):
        six = [(0, stack, deck) for deck in (0, 1) for stack in range(3)]
        load = self.great_load(six, 5, 1)
        self.check_in_good_time(load, [great_box(90 + at) for at in range(4)], 4)

    def test_one_box_in_the_way_wherever_it_stands(self):
        six = [(bay, 7, 0) for bay in range(1, 7)]
        load = self.great_load(six, 5, 2)
        boxes = [great_box(90)] + [great_box(91 + at)[:5] + (1,) for at in range(3)]
        paper = self.check_in_good_time(load, boxes, 1)
        self.check_length(paper, 128)

    def test_no_filling(self):
        six = [(bay, 0, deck) for bay in range(3) for deck in (0, 1)]
        load = self.great_load(six, 5, 1)
        boxes = [great_box(90 + at) for at in range(3)] + [great_box(93, 100 * GREAT)]
        paper = self.check_in_good_time(load, boxes, None)
        self.check_length(paper, 128)
        self.assertEqual(forms_in(paper), {"part", "lost"})

    def check_length(self, paper, length):
        parts = 0
        while paper[0] == "part":
            self.assertEqual(len(paper[1]), 4)
            parts, paper = parts + 1, paper[2]
        self.assertEqual(parts, length)


if __name__ == "__main__":
    unittest.main()
