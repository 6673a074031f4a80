"""[37] and [38]: boxes and loads written, and loads read."""

import random
import unittest

from samples import GREAT, UNEVEN_CELLS, box, chance_ship, great_box, great_ship, named, part, plain_ship, ship_args
from samples import uneven_ship_args
from stowhold.errors import NoLoad, NoNote
from stowhold.loads import Load
from stowhold.notes import read_load, written_box, written_load
from stowhold.ships import Ship, cells_of, parts_of

GOOD = "0 0 0 0 amber 10 8 1 fish 2"
PIECES = GOOD.split(" ")
NUMBERS, FLAGS, WORDS = (0, 1, 3, 5, 6, 9), (2, 7), (4, 8)

# Pieces that are no number, no flag and no word, wherever they stand.
NEVER = ["", "+1", "-1", "-0", "00", "01", "007", "1.0", "1e1", "0x1", "1_0", "1,0", "Amber", "amberA", "am-ber",
         "am_ber", "amber1", "1amber", "#", "\t", "1\t", "\t1", "a\t", "1\r", "amber\r", "1\x0b", "amber\x0c", "1\x00",
         "amber\x00", "\u00e4", "amb\u00e9r", "\u0430mber", "\u0661", "1\u0661", "\u00b2", "\u2460", "\uff11", "\u00bd",
         "\u0967", "\u00df", "\u0131", "\u00aa", "1\u00a0", "amber\u00a0", "\ufeff1", "amber\u200b", "a\u0301",
         "1\u2028", "amber\u2029", "1\x85", "\x1c", "1" * 61, "0" * 60, "a" * 13]
NO_NUMBERS = NEVER + ["a", "amber", "o", "l"]
NO_FLAGS = NO_NUMBERS + ["2", "10", "9", "1" * 60]
NO_WORDS = NEVER + ["0", "1", "12", "A", "Z"]


def with_piece(at, piece):
    return " ".join(PIECES[:at] + [piece] + PIECES[at + 1:])


class Writing(unittest.TestCase):
    def test_a_box(self):
        self.assertEqual(written_box(("amber", 10, 8, 1, "fish", 2)), "amber 10 8 1 fish 2")
        self.assertEqual(written_box(("b", 0, 0, 0, "s", 0)), "b 0 0 0 s 0")

    def test_a_box_of_the_longest_things(self):
        one = ("n" * 12, GREAT, GREAT, 1, "s" * 12, GREAT)
        figures = "9" * 60
        self.assertEqual(written_box(one), f"nnnnnnnnnnnn {figures} {figures} 1 ssssssssssss {figures}")
        self.assertEqual(written_box(box("a", 10 ** 59)).split(" ")[1], "1" + "0" * 59)

    def test_the_empty_load(self):
        self.assertEqual(written_load(Load(plain_ship(), [])), "")

    def test_a_load_of_one_box(self):
        load = Load(plain_ship(), [((1, 2, 1, 0), box("amber", 10, 8, 0, "fish", 2))])
        self.assertEqual(written_load(load), "1 2 1 0 amber 10 8 0 fish 2")

    def test_rows_in_the_order_of_cells(self):
        load = Load(plain_ship(), [((1, 0, 0, 0), box("d")), ((0, 0, 1, 0), box("c", 7)), ((0, 2, 0, 1), box("a")),
                                   ((0, 2, 0, 0), box("b", 1, 2, 1, "oil", 4))])
        self.assertEqual(written_load(load), "0 2 0 0 b 1 2 1 oil 4\n0 2 0 1 a 5 3 0 tea 1\n"
                                             "0 0 1 0 c 7 3 0 tea 1\n1 0 0 0 d 5 3 0 tea 1")


class Reading(unittest.TestCase):
    def refuse(self, text, line, ship=None):
        with self.assertRaises(NoNote, msg=repr(text)) as caught:
            read_load(ship or plain_ship(), text)
        self.assertEqual(caught.exception.line, line, repr(text))

    def test_the_empty_text(self):
        ship = plain_ship()
        told = read_load(ship, "")
        self.assertIsInstance(told, Load)
        self.assertIs(told.ship, ship)
        self.assertEqual(told.placed, ())

    def test_one_row(self):
        told = read_load(plain_ship(), GOOD)
        self.assertEqual(told.placed, (((0, 0, 0, 0), ("amber", 10, 8, 1, "fish", 2)),))
        cell, one = told.placed[0]
        self.assertEqual([type(thing) for thing in cell + one], [int] * 4 + [str, int, int, int, str, int])

    def test_rows_in_any_order(self):
        rows = ["0 0 0 0 a 5 3 0 tea 1", "0 0 0 1 b 5 3 0 tea 1", "0 0 1 0 c 5 3 0 tea 1", "1 0 0 0 d 5 3 0 tea 1"]
        chance = random.Random(38)
        for at in range(10):
            chance.shuffle(rows)
            told = read_load(plain_ship(), "\n".join(rows))
            self.assertEqual(told.placed, (((0, 0, 0, 0), box("a")), ((0, 0, 0, 1), box("b")),
                                           ((0, 0, 1, 0), box("c")), ((1, 0, 0, 0), box("d"))))

    def test_the_edges_of_numbers_and_words(self):
        figures = "9" * 60
        told = read_load(plain_ship(), f"1 2 1 0 {'n' * 12} {figures} 1{'0' * 59} 0 {'s' * 12} {figures}")
        self.assertEqual(told.placed, (((1, 2, 1, 0), ("n" * 12, GREAT, 10 ** 59, 0, "s" * 12, GREAT)),))
        told = read_load(plain_ship(), "0 0 0 0 a 0 0 0 z 0")
        self.assertEqual(told.placed, (((0, 0, 0, 0), ("a", 0, 0, 0, "z", 0)),))
        told = read_load(plain_ship(), "0 0 0 0 abcdefghijkl 10 20 1 mnopqrstuvwx 1234567890")
        self.assertEqual(told.placed[0][1], ("abcdefghijkl", 10, 20, 1, "mnopqrstuvwx", 1234567890))
        self.assertEqual(read_load(plain_ship(), "0 0 0 0 yz 1 1 1 zy 1").placed[0][1], ("yz", 1, 1, 1, "zy", 1))

    def test_each_piece_that_is_not_as_told(self):
        for places, wrong in ((NUMBERS, NO_NUMBERS), (FLAGS, NO_FLAGS), (WORDS, NO_WORDS)):
            for at in places:
                for piece in wrong:
                    self.refuse(with_piece(at, piece), 0)

    def test_sixty_and_sixty_one_figures(self):
        for at in (5, 6, 9):
            figures = "1" * 60
            told = read_load(plain_ship(), with_piece(at, figures))
            self.assertIn(int(figures), told.placed[0][1])
            self.refuse(with_piece(at, figures + "1"), 0)
        # As a cell's number sixty figures are as told, but there is no such cell.
        for at in (0, 1, 3):
            self.assertRaises(NoLoad, read_load, plain_ship(), with_piece(at, "1" * 60))
            self.refuse(with_piece(at, "1" * 61), 0)

    def test_too_few_and_too_many_pieces(self):
        for count in range(1, 10):
            self.refuse(" ".join(PIECES[:count]), 0)
            self.refuse(" ".join(PIECES[count:]), 0)
        for more in ("0", "amber", "1"):
            self.refuse(GOOD + " " + more, 0)
            self.refuse(more + " " + GOOD, 0)
        self.refuse(GOOD + " " + GOOD, 0)

    def test_blanks(self):
        for at in range(1, 10):
            for between in ("  ", "   ", "\t", " \t", "\u00a0", "", "\u3000"):
                self.refuse(" ".join(PIECES[:at]) + between + " ".join(PIECES[at:]), 0)
        for text in (" " + GOOD, GOOD + " ", "  " + GOOD, GOOD + "\t", "\t" + GOOD, " ", "  ", " " * 9, " " * 10):
            self.refuse(text, 0)

    def test_line_ends(self):
        other = "0 0 0 1 b 5 3 0 tea 1"
        self.assertEqual(len(read_load(plain_ship(), GOOD + "\n" + other).placed), 2)
        for end in ("\r", "\x0b", "\x0c", "\x1c", "\x1d", "\x1e", "\x85", "\u2028", "\u2029", ";"):
            self.refuse(GOOD + end + other, 0)
            self.refuse(GOOD + end, 0)
            self.refuse(GOOD + end + "\n" + other, 0)
            self.refuse(GOOD + "\n" + end + other, 1)

    def test_a_line_end_at_the_end(self):
        self.refuse(GOOD + "\n", 1)
        self.refuse(GOOD + "\n\n", 1)
        self.refuse(GOOD + "\n0 0 0 1 b 5 3 0 tea 1\n", 2)
        self.refuse("\n", 0)
        self.refuse("\n\n", 0)
        self.refuse("\n" + GOOD, 0)
        self.refuse(GOOD + "\n\n0 0 0 1 b 5 3 0 tea 1", 1)

    def test_the_number_of_the_first_such_row(self):
        rows = [f"0 0 0 {at} {named(at)} 5 3 0 tea 1" for at in range(9)]
        for first in range(9):
            for second in range(first, 9):
                wrong = [row + " " if at in (first, second) else row for at, row in enumerate(rows)]
                self.refuse("\n".join(wrong), first)

    def test_no_load(self):
        for text in ("2 0 0 0 a 5 3 0 tea 1", "0 3 0 0 a 5 3 0 tea 1", "0 0 0 3 a 5 3 0 tea 1", "0 0 0 1 a 5 3 0 tea 1",
                     GOOD + "\n" + GOOD, GOOD + "\n" + with_piece(4, "birch"), GOOD + "\n" + with_piece(0, "1"),
                     GOOD + "\n" + with_piece(3, "2").replace("amber", "birch")):
            self.assertRaises(NoLoad, read_load, plain_ship(), text)

    def test_no_note_ahead_of_no_load(self):
        for bad in ("2 0 0 0 a 5 3 0 tea 1", GOOD, with_piece(4, "birch"), "0 0 0 2 a 5 3 0 tea 1"):
            self.refuse(GOOD + "\n" + bad + "\n" + GOOD + " ", 2)
            self.refuse(GOOD + "\n" + bad + "\n", 2)
            self.refuse(GOOD + "x1\n" + bad, 0)

    def test_rules_are_not_asked(self):
        told = read_load(plain_ship(), "0 0 0 0 a 99 99 1 tea 1")
        self.assertEqual(told.placed, (((0, 0, 0, 0), box("a", 99, 99, 1)),))


class Again(unittest.TestCase):
    def check_again(self, load):
        text = written_load(load)
        self.assertEqual(read_load(load.ship, text).placed, load.placed)
        self.assertEqual(written_load(read_load(load.ship, text)), text)
        for row, (cell, one) in zip(text.split("\n"), load.placed):
            self.assertEqual(row, " ".join(str(number) for number in cell) + " " + written_box(one))

    def test_some_loads(self):
        ship = Ship(*uneven_ship_args())
        self.check_again(Load(ship, []))
        self.check_again(Load(ship, [(cell, box(named(at))) for at, cell in enumerate(UNEVEN_CELLS)]))

    def test_by_chance(self):
        chance = random.Random(37)
        for at in range(50):
            ship = chance_ship(chance, 3, [])
            cells = []
            for name_part in parts_of(ship):
                here = [cell for cell in cells_of(ship) if cell[:3] == name_part]
                cells += here[:chance.randrange(len(here) + 1)]
            boxes = [box(named(number), chance.randrange(10 ** chance.randrange(61)), chance.randrange(30),
                         chance.randrange(2), chance.choice(["tea", "oil"]), chance.randrange(GREAT))
                     for number in range(26)]
            self.check_again(Load(ship, list(zip(cells, boxes))))

    def test_at_the_bounds(self):
        """A hundred boxes, and about twenty thousand signs."""
        ship = great_ship()
        load = Load(ship, [(cell, great_box(at)) for at, cell in enumerate(cells_of(ship)[:100])])
        self.assertGreater(len(written_load(load)), 20000)
        self.check_again(load)

    def test_a_ship_of_great_numbers_of_bays_and_stacks(self):
        """Numbers of cells of more than one figure come somewhat beyond the bounds, and are not refused."""
        ship = Ship(*ship_args([[(part(1), part(1))] * 11] * 11))
        load = Load(ship, [((10, 9, 0, 0), box("a")), ((9, 10, 1, 0), box("b"))])
        self.assertEqual(written_load(load), "9 10 1 0 b 5 3 0 tea 1\n10 9 0 0 a 5 3 0 tea 1")
        self.check_again(load)


if __name__ == "__main__":
    unittest.main()
