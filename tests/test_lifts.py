"""[14] to [17]: lifts, rows of lifts and the way back."""

import itertools
import unittest

from samples import GREAT, NOT_CELLS, UNEVEN_CELLS, box, named, part, plain_ship, ship_args, uneven_ship_args
from stowhold.errors import BadLift, BadRow
from stowhold.lifts import after_lift, after_lifts, sound_row, way_back
from stowhold.loads import Load
from stowhold.rules import sound
from stowhold.ships import Ship

NEW = box("new", 6, 2, 1, "silk", 3)


def off(*cell):
    return ("off", cell)


def on(name, *cell):
    return ("on", cell, box(name))


def placed_at(cells):
    return [(cell, box(named(at))) for at, cell in enumerate(cells)]


def load_of(*cells):
    return Load(plain_ship(), placed_at(cells))


def why(load, lift):
    """The word of the refusal, or None where the lift can be done."""
    try:
        after_lift(load, lift)
    except BadLift as refusal:
        return refusal.why
    return None


class DoneLifts(unittest.TestCase):
    def test_off(self):
        load = load_of((0, 0, 0, 0), (0, 0, 0, 1), (0, 2, 0, 0), (1, 0, 0, 0))
        behind = after_lift(load, off(0, 0, 0, 1))
        self.assertIsInstance(behind, Load)
        self.assertIs(behind.ship, load.ship)
        self.assertEqual(behind.placed, tuple(pair for pair in load.placed if pair[0] != (0, 0, 0, 1)))

    def test_on(self):
        load = load_of((0, 0, 0, 0), (0, 2, 0, 0), (1, 0, 0, 0))
        behind = after_lift(load, ("on", (0, 0, 0, 1), NEW))
        self.assertIsInstance(behind, Load)
        self.assertIs(behind.ship, load.ship)
        self.assertEqual(behind.placed, (load.placed[0], ((0, 0, 0, 1), NEW)) + load.placed[1:])

    def test_the_last_off_and_the_first_on(self):
        for cell in ((0, 0, 0, 0), (0, 2, 1, 0), (1, 1, 0, 0), (1, 0, 1, 0)):
            self.assertEqual(after_lift(load_of(cell), ("off", cell)).placed, ())
            self.assertEqual(after_lift(load_of(), ("on", cell, NEW)).placed, ((cell, NEW),))

    def test_up_to_the_top_of_a_part(self):
        for deck in (0, 1):
            load = load_of((0, 1, deck, 0), (0, 1, deck, 1))
            behind = after_lift(load, ("on", (0, 1, deck, 2), NEW))
            self.assertEqual(behind.placed, load.placed + (((0, 1, deck, 2), NEW),))
            self.assertEqual(after_lift(behind, off(0, 1, deck, 2)).placed, load.placed)

    def test_neither_rules_nor_moments_are_asked(self):
        nothing = part(2, 0, 0, (), 0)
        ship = Ship(*ship_args([[(nothing, nothing)]], [("silk", "silk")], 0, 0))
        heavy = box("heavy", GREAT, GREAT, 1, "silk", GREAT)
        load = Load(ship, [((0, 0, 0, 0), NEW)])
        self.assertEqual(after_lift(load, ("on", (0, 0, 0, 1), heavy)).placed, load.placed + (((0, 0, 0, 1), heavy),))

    def test_the_load_that_was_handed_in_stays_as_it_was(self):
        load = load_of((0, 0, 0, 0), (1, 0, 1, 0))
        told = load.placed
        after_lift(load, off(0, 0, 0, 0))
        after_lift(load, ("on", (0, 0, 0, 1), NEW))
        self.assertEqual(why(load, off(1, 0, 0, 0)), "empty")
        self.assertEqual(load.placed, told)
        self.assertEqual(load.placed, tuple(placed_at([(0, 0, 0, 0), (1, 0, 1, 0)])))

    def test_each_lift_of_small_loads(self):
        """What can be done, told by [14] alone, at each cell of all loads of a small ship."""
        ship = Ship(*ship_args([[(part(2), part(1)), (part(1), part(1))]]))
        parts = [(0, 0, 0), (0, 1, 0), (0, 0, 1), (0, 1, 1)]
        for tops in itertools.product(range(3), range(2), range(2), range(2)):
            cells = [name + (tier,) for name, top in zip(parts, tops) for tier in range(top)]
            load = Load(ship, placed_at(cells))
            shut = tops[2] + tops[3] > 0
            for name, top, cell_count in zip(parts, tops, (2, 1, 1, 1)):
                for tier in range(cell_count):
                    opens = name[2] == 1 or not shut
                    with self.subTest(tops=tops, cell=name + (tier,)):
                        self.assertEqual(why(load, ("off", name + (tier,))) is None, opens and tier == top - 1)
                        self.assertEqual(why(load, ("on", name + (tier,), NEW)) is None, opens and tier == top)


class Words(unittest.TestCase):
    """Each word of BadLift alone."""

    def test_cell(self):
        ship = Ship(*uneven_ship_args())
        full = Load(ship, placed_at(UNEVEN_CELLS))
        for load, cell in itertools.product((full, Load(ship, [])), NOT_CELLS):
            with self.subTest(cell):
                self.assertEqual(why(load, ("off", cell)), "cell")
                self.assertEqual(why(load, ("on", cell, NEW)), "cell")

    def test_empty(self):
        load = load_of((0, 0, 0, 0), (1, 0, 1, 0))
        for cell in ((0, 0, 0, 1), (0, 0, 0, 2), (0, 1, 0, 0), (0, 0, 1, 0), (1, 0, 1, 1), (1, 1, 1, 0)):
            self.assertEqual(why(load, ("off", cell)), "empty")

    def test_full(self):
        load = load_of((0, 0, 0, 0), (0, 0, 0, 1), (1, 0, 1, 0), (1, 0, 1, 1))
        for cell, told in load.placed:
            self.assertEqual(why(load, ("on", cell, NEW)), "full")

    def test_name(self):
        load = load_of((0, 0, 0, 0), (1, 0, 1, 0))
        for cell in ((0, 0, 0, 1), (0, 1, 0, 0), (0, 0, 1, 0), (1, 0, 1, 1)):
            for told in (box(named(0)), box(named(1), 77, 7, 1, "coal", 7)):
                self.assertEqual(why(load, ("on", cell, told)), "name")

    def test_a_name_is_free_again_behind_its_off(self):
        load = after_lift(load_of((0, 0, 0, 0)), off(0, 0, 0, 0))
        self.assertIsNone(why(load, on(named(0), 0, 1, 0, 0)))

    def test_under_for_an_off(self):
        load = load_of((0, 0, 0, 0), (0, 0, 0, 1), (0, 0, 0, 2), (1, 0, 1, 0), (1, 0, 1, 1))
        for cell in ((0, 0, 0, 0), (0, 0, 0, 1), (1, 0, 1, 0)):
            self.assertEqual(why(load, ("off", cell)), "under")
        for cell in ((0, 0, 0, 2), (1, 0, 1, 1)):
            self.assertIsNone(why(load, ("off", cell)))

    def test_under_for_an_on(self):
        load = load_of((0, 0, 0, 0), (1, 0, 1, 0))
        for cell in ((0, 0, 0, 2), (0, 1, 0, 1), (0, 1, 0, 2), (1, 0, 1, 2), (1, 2, 1, 1)):
            self.assertEqual(why(load, ("on", cell, NEW)), "under")

    def test_hatch(self):
        for stack, deck_stack in itertools.product(range(3), repeat=2):
            load = load_of((0, stack, 0, 0), (0, deck_stack, 1, 0))
            with self.subTest(stack=stack, deck_stack=deck_stack):
                self.assertEqual(why(load, off(0, stack, 0, 0)), "hatch")
                self.assertEqual(why(load, ("on", (0, stack, 0, 1), NEW)), "hatch")
                self.assertEqual(why(load, ("on", (0, (stack + 1) % 3, 0, 0), NEW)), "hatch")

    def test_the_deck_of_another_bay_does_not_shut_it(self):
        for bay in (0, 1):
            load = load_of((bay, 0, 0, 0), (1 - bay, 0, 1, 0), (1 - bay, 1, 1, 0))
            self.assertIsNone(why(load, off(bay, 0, 0, 0)))
            self.assertIsNone(why(load, ("on", (bay, 0, 0, 1), NEW)))
            self.assertIsNone(why(load, ("on", (bay, 1, 0, 0), NEW)))

    def test_the_hold_does_not_shut_it(self):
        load = load_of((0, 0, 0, 0), (0, 1, 0, 0), (0, 2, 0, 0))
        self.assertIsNone(why(load, off(0, 1, 0, 0)))
        self.assertIsNone(why(load, ("on", (0, 1, 0, 1), NEW)))

    def test_a_lift_on_deck_never_asks_the_hatch(self):
        load = load_of((0, 0, 0, 0), (0, 0, 1, 0), (0, 1, 1, 0))
        self.assertIsNone(why(load, off(0, 0, 1, 0)))
        self.assertIsNone(why(load, ("on", (0, 0, 1, 1), NEW)))
        self.assertIsNone(why(load, ("on", (0, 2, 1, 0), NEW)))

    def test_the_hatch_opens_when_the_deck_is_clear(self):
        load = load_of((0, 0, 0, 0), (0, 0, 1, 0), (0, 2, 1, 0))
        for cell in ((0, 0, 1, 0), (0, 2, 1, 0)):
            self.assertEqual(why(load, off(0, 0, 0, 0)), "hatch")
            load = after_lift(load, ("off", cell))
        self.assertIsNone(why(load, off(0, 0, 0, 0)))


class OrderOfWords(unittest.TestCase):
    """Two words due together: the first in the order of [15] is told."""

    def setUp(self):
        # The hold of bay 0 is shut; named(0) stands in it beneath named(1).
        self.load = load_of((0, 0, 0, 0), (0, 0, 0, 1), (0, 2, 1, 0), (1, 0, 0, 0), (1, 1, 1, 0))

    def told(self, lift, word):
        self.assertEqual(why(self.load, lift), word)

    def test_cell_ahead_of_empty(self):
        self.told(off(1, 0, 1, 3), "cell")

    def test_cell_ahead_of_name(self):
        self.told(on(named(0), 1, 3, 1, 0), "cell")

    def test_cell_ahead_of_under(self):
        self.told(on("new", 1, 1, 1, 3), "cell")
        self.told(on("new", 1, 1, 1, 4), "cell")

    def test_cell_ahead_of_hatch(self):
        self.told(off(0, 0, 0, 3), "cell")
        self.told(on("new", 0, 3, 0, 0), "cell")

    def test_empty_ahead_of_hatch(self):
        self.told(off(0, 0, 0, 2), "empty")
        self.told(off(0, 1, 0, 0), "empty")

    def test_full_ahead_of_name(self):
        self.told(on(named(0), 1, 1, 1, 0), "full")
        self.told(on(named(4), 1, 1, 1, 0), "full")

    def test_full_ahead_of_hatch(self):
        self.told(on("new", 0, 0, 0, 1), "full")

    def test_full_ahead_of_name_and_hatch(self):
        self.told(on(named(3), 0, 0, 0, 0), "full")

    def test_name_ahead_of_under(self):
        self.told(on(named(3), 1, 1, 1, 2), "name")

    def test_name_ahead_of_hatch(self):
        self.told(on(named(3), 0, 0, 0, 2), "name")

    def test_name_ahead_of_under_and_hatch(self):
        self.told(on(named(3), 0, 1, 0, 1), "name")

    def test_under_ahead_of_hatch(self):
        self.told(off(0, 0, 0, 0), "under")
        self.told(on("new", 0, 1, 0, 1), "under")

    def test_hatch_where_all_else_is_well(self):
        self.told(off(0, 0, 0, 1), "hatch")
        self.told(on("new", 0, 0, 0, 2), "hatch")
        self.told(on("new", 0, 1, 0, 0), "hatch")


class Rows(unittest.TestCase):
    def setUp(self):
        self.load = load_of((0, 0, 0, 0), (0, 0, 0, 1), (0, 1, 1, 0))
        self.row = [off(0, 1, 1, 0), off(0, 0, 0, 1), ("on", (0, 2, 0, 0), NEW), off(0, 0, 0, 0),
                    on(named(1), 0, 0, 0, 0), on("more", 0, 0, 1, 0)]

    def refused(self, ask, load, row):
        with self.assertRaises(BadRow) as caught:
            ask(load, row)
        return (caught.exception.at, caught.exception.why)

    def test_the_empty_row(self):
        for load in (self.load, load_of()):
            behind = after_lifts(load, [])
            self.assertIsInstance(behind, Load)
            self.assertEqual((behind.ship, behind.placed), (load.ship, load.placed))

    def test_a_row_that_can_be_done(self):
        behind = after_lifts(self.load, self.row)
        self.assertIsInstance(behind, Load)
        self.assertIs(behind.ship, self.load.ship)
        self.assertEqual(behind.placed, (((0, 0, 0, 0), box(named(1))), ((0, 2, 0, 0), NEW),
                                         ((0, 0, 1, 0), box("more"))))

    def test_one_by_one(self):
        load = self.load
        for count in range(len(self.row)):
            self.assertEqual(after_lifts(self.load, self.row[:count]).placed, load.placed)
            load = after_lift(load, self.row[count])

    def test_each_word_at_each_number(self):
        bad = {"cell": off(0, 0, 0, 3), "empty": off(1, 2, 1, 1), "name": on("b", 1, 2, 1, 0),
               "full": on("new", 1, 0, 1, 0), "under": on("new", 1, 2, 1, 1), "hatch": on("new", 1, 1, 0, 0)}
        ahead = [on("a", 1, 0, 1, 0), on("b", 1, 0, 1, 1), off(1, 0, 1, 1), on("b", 1, 1, 1, 0)]
        for word, lift in bad.items():
            for count in (2, 4):
                for ask in (after_lifts, sound_row, way_back):
                    with self.subTest(word=word, count=count, ask=ask.__name__):
                        self.assertEqual(self.refused(ask, load_of(), ahead[:count] + [lift] + ahead[count:]),
                                         (count, word))

    def test_the_first_that_can_not_be_done(self):
        row = self.row[:2] + [off(9, 0, 0, 0)] + self.row[2:] + [off(0, 0, 0, 0), off(0, 2, 1, 0)]
        for ask in (after_lifts, sound_row, way_back):
            self.assertEqual(self.refused(ask, self.load, row), (2, "cell"))
            self.assertEqual(self.refused(ask, self.load, [off(0, 0, 0, 0), off(0, 1, 0, 0), off(9, 0, 0, 0)]),
                             (0, "under"))
            self.assertEqual(self.refused(ask, self.load, self.row + [off(0, 2, 0, 0)]), (6, "hatch"))

    def test_the_row_is_asked_of_the_load_behind_each_lift(self):
        for ask in (after_lifts, sound_row, way_back):
            self.assertEqual(self.refused(ask, self.load, [off(0, 1, 1, 0), off(0, 1, 1, 0)]), (1, "empty"))
            self.assertEqual(self.refused(ask, load_of(), [on("a", 0, 0, 0, 0), on("a", 0, 0, 0, 1)]), (1, "name"))

    def test_a_long_row(self):
        row = [on("a", 0, 0, 1, 0), off(0, 0, 1, 0)] * 150
        self.assertEqual(after_lifts(self.load, row).placed, self.load.placed)
        self.assertEqual(self.refused(after_lifts, self.load, row + [off(0, 0, 1, 0)]), (300, "empty"))

    def test_the_load_and_the_row_stay_as_they_were(self):
        load_told, row_told = self.load.placed, list(self.row)
        for ask in (after_lifts, sound_row, way_back):
            ask(self.load, self.row)
            self.assertEqual(self.row, row_told)
            self.assertEqual(self.load.placed, load_told)
            row = self.row + [off(9, 0, 0, 0)]
            self.refused(ask, self.load, row)
            self.assertEqual(row, row_told + [off(9, 0, 0, 0)])
            self.assertEqual(self.load.placed, load_told)


class SoundRows(unittest.TestCase):
    def setUp(self):
        self.ship = Ship(*ship_args([[(part(3, 10), part(3, 10, 40, (), 15))]]))
        self.heavy = ("on", (0, 0, 0, 0), box("heavy", 11))
        self.light = ("on", (0, 0, 0, 0), box("light", 10))
        self.unsound = Load(self.ship, [((0, 0, 1, 0), box("heavy", 11))])

    def test_true(self):
        row = [self.light, ("off", (0, 0, 0, 0)), self.light, ("on", (0, 0, 1, 0), box("b", 10))]
        self.assertIs(sound_row(Load(self.ship, []), row), True)

    def test_false_at_each_place(self):
        rows = [[self.heavy], [self.heavy, ("off", (0, 0, 0, 0))],
                [self.light, ("off", (0, 0, 0, 0)), self.heavy, ("off", (0, 0, 0, 0)), self.light],
                [self.light, ("off", (0, 0, 0, 0)), self.heavy]]
        for row in rows:
            with self.subTest(row):
                self.assertIs(sound_row(Load(self.ship, []), row), False)

    def test_the_load_ahead_of_the_row_is_not_asked(self):
        self.assertIs(sound(self.unsound), False)
        self.assertIs(sound_row(self.unsound, []), True)
        self.assertIs(sound_row(self.unsound, [("off", (0, 0, 1, 0))]), True)
        self.assertIs(sound_row(self.unsound, [("on", (0, 0, 1, 1), box("b", 0))]), False)

    def test_the_empty_row_of_a_sound_load(self):
        self.assertIs(sound_row(Load(self.ship, []), []), True)

    def test_uneven_loads_are_no_fault(self):
        ship = Ship(*ship_args([[(part(), part())]], [], 0, 0))
        self.assertIs(sound_row(Load(ship, []), [self.light]), True)

    def test_refused_also_where_a_load_ahead_is_not_sound(self):
        for load, row, told in (
                (Load(self.ship, []), [self.heavy, ("off", (0, 0, 0, 1))], (1, "empty")),
                (Load(self.ship, []), [self.heavy, ("off", (0, 0, 0, 0)), self.light, self.light], (3, "full")),
                (self.unsound, [("on", (0, 0, 0, 0), box("b"))], (0, "hatch")),
                (self.unsound, [("on", (0, 0, 1, 1), box("b")), ("off", (0, 0, 1, 0))], (1, "under"))):
            with self.subTest(row):
                with self.assertRaises(BadRow) as caught:
                    sound_row(load, row)
                self.assertEqual((caught.exception.at, caught.exception.why), told)


class WayBack(unittest.TestCase):
    def setUp(self):
        self.load = load_of((0, 0, 0, 0), (0, 0, 0, 1), (0, 1, 1, 0))

    def test_the_empty_row(self):
        self.assertEqual(way_back(self.load, []), [])

    def test_one_lift(self):
        self.assertEqual(way_back(self.load, [off(0, 1, 1, 0)]), [on(named(2), 0, 1, 1, 0)])
        self.assertEqual(way_back(self.load, [("on", (0, 1, 1, 1), NEW)]), [off(0, 1, 1, 1)])

    def test_several_lifts_with_the_very_boxes(self):
        other = box(named(1), 77, 7, 1, "coal", 7)
        row = [off(0, 1, 1, 0), off(0, 0, 0, 1), ("on", (0, 0, 0, 1), other), ("on", (0, 0, 0, 2), NEW),
               off(0, 0, 0, 2), off(0, 0, 0, 1), ("on", (0, 0, 1, 0), NEW)]
        told = [off(0, 0, 1, 0), ("on", (0, 0, 0, 1), other), ("on", (0, 0, 0, 2), NEW), off(0, 0, 0, 2),
                off(0, 0, 0, 1), on(named(1), 0, 0, 0, 1), on(named(2), 0, 1, 1, 0)]
        self.assertEqual(way_back(self.load, row), told)

    def test_it_leads_back_and_its_way_back_is_the_row(self):
        row = [off(0, 1, 1, 0), off(0, 0, 0, 1), ("on", (0, 2, 0, 0), NEW), off(0, 0, 0, 0),
               on(named(1), 0, 0, 0, 0), on("more", 0, 0, 1, 0)]
        for count in range(len(row) + 1):
            behind = after_lifts(self.load, row[:count])
            back = way_back(self.load, row[:count])
            self.assertEqual(len(back), count)
            self.assertEqual(after_lifts(behind, back).placed, self.load.placed)
            self.assertEqual(way_back(behind, back), row[:count])

    def test_kinds(self):
        told = way_back(self.load, [off(0, 1, 1, 0), on("a", 0, 1, 1, 0)])
        self.assertIs(type(told), list)
        self.assertEqual([type(lift) for lift in told], [tuple, tuple])

    def test_unsound_loads_have_a_way_back_too(self):
        ship = Ship(*ship_args([[(part(2, 0), part(2, 0))]]))
        row = [on("a", 0, 0, 0, 0), on("b", 0, 0, 1, 0)]
        self.assertEqual(way_back(Load(ship, []), row), [off(0, 0, 1, 0), off(0, 0, 0, 0)])

    def test_refused(self):
        for row, told in (([off(0, 0, 0, 1)], (0, "hatch")), ([off(0, 1, 1, 0), off(0, 0, 0, 0)], (1, "under")),
                          ([off(0, 1, 1, 0), on("a", 0, 3, 0, 0), off(9, 9, 9, 9)], (1, "cell"))):
            with self.assertRaises(BadRow) as caught:
                way_back(self.load, row)
            self.assertEqual((caught.exception.at, caught.exception.why), told)


if __name__ == "__main__":
    unittest.main()
