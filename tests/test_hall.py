"""[39]: from text to answer."""

import random
import unittest

from samples import GREAT, box, chance_ship, great_box, great_ship, named, plain_ship
from stowhold.errors import BadRow, NoLoad, NoNote
from stowhold.fewest import lifts_to
from stowhold.hall import done_text, lifts_text
from stowhold.lifts import after_lifts
from stowhold.loads import Load
from stowhold.notes import read_load, written_box, written_load
from stowhold.ships import cells_of, parts_of

ONE, TWO = "0 0 0 0 a 5 3 0 tea 1", "0 0 0 1 b 5 3 0 tea 1"
OTHER = "0 0 0 1 c 5 3 0 tea 1"
OFF, ON = "off 0 0 0 1", "on 0 0 0 1 c 5 3 0 tea 1"
WRONG = "0 0 0 0 a 5 3 2 tea 1"
FLOATING = "0 0 0 2 z 5 3 0 tea 1"


def written_lift(lift):
    cell = " ".join(str(number) for number in lift[1])
    return f"off {cell}" if lift[0] == "off" else f"on {cell} {written_box(lift[2])}"


class Texts(unittest.TestCase):
    """What tests of both functions ask."""

    def refuse(self, ask, refusal, *texts, line=None):
        with self.assertRaises(refusal) as caught:
            ask(plain_ship(), *texts)
        self.assertIs(type(caught.exception), refusal)
        if line is not None:
            self.assertEqual(caught.exception.line, line)


class LiftsText(Texts):
    def test_off_and_on(self):
        ship = plain_ship()
        self.assertEqual(lifts_text(ship, ONE + "\n" + TWO, ONE), OFF)
        self.assertEqual(lifts_text(ship, ONE, ONE + "\n" + OTHER), ON)
        self.assertEqual(lifts_text(ship, ONE + "\n" + TWO, ONE + "\n" + OTHER), OFF + "\n" + ON)
        self.assertEqual(lifts_text(ship, "", ONE), "on " + ONE)
        self.assertEqual(lifts_text(ship, ONE, ""), "off 0 0 0 0")

    def test_no_lifts(self):
        ship = plain_ship()
        self.assertEqual(lifts_text(ship, "", ""), "")
        self.assertEqual(lifts_text(ship, ONE + "\n" + TWO, TWO + "\n" + ONE), "")

    def test_the_row_of_lifts_to(self):
        ship = plain_ship()
        stays = [((0, 0, 0, 1), box("b")), ((0, 2, 1, 0), box("d", 7, 8, 1, "oil", 9))]
        load = Load(ship, stays + [((0, 0, 0, 0), box("a"))])
        plan = Load(ship, stays + [((0, 0, 0, 0), box("c", GREAT, GREAT)), ((1, 1, 1, 0), box("a"))])
        told = lifts_text(ship, written_load(load), written_load(plan))
        self.assertEqual(told, "\n".join(written_lift(lift) for lift in lifts_to(load, plan)))
        self.assertEqual(len(told.split("\n")), 7)

    def test_each_refusal(self):
        self.refuse(lifts_text, NoNote, WRONG, ONE, line=0)
        self.refuse(lifts_text, NoNote, ONE + "\n" + WRONG, ONE, line=1)
        self.refuse(lifts_text, NoNote, ONE + "\n", ONE, line=1)
        self.refuse(lifts_text, NoLoad, ONE + "\n" + FLOATING, ONE)
        self.refuse(lifts_text, NoNote, ONE, WRONG, line=0)
        self.refuse(lifts_text, NoNote, ONE, ONE + "\n" + TWO + "\n", line=2)
        self.refuse(lifts_text, NoLoad, ONE, ONE + "\n" + ONE)

    def test_each_order_of_two(self):
        self.refuse(lifts_text, NoNote, ONE + "\n" + WRONG, WRONG, line=1)
        self.refuse(lifts_text, NoNote, WRONG, ONE + "\n" + WRONG, line=0)
        self.refuse(lifts_text, NoNote, WRONG, FLOATING, line=0)
        self.refuse(lifts_text, NoLoad, FLOATING, WRONG)
        self.refuse(lifts_text, NoNote, FLOATING + "\n" + WRONG, ONE, line=1)
        self.refuse(lifts_text, NoNote, ONE, FLOATING + "\n" + WRONG, line=1)


class DoneText(Texts):
    def test_off_and_on(self):
        ship = plain_ship()
        self.assertEqual(done_text(ship, ONE + "\n" + TWO, OFF), ONE)
        self.assertEqual(done_text(ship, ONE, ON), ONE + "\n" + OTHER)
        self.assertEqual(done_text(ship, ONE + "\n" + TWO, OFF + "\n" + ON), ONE + "\n" + OTHER)
        self.assertEqual(done_text(ship, ONE, "off 0 0 0 0"), "")
        self.assertEqual(done_text(ship, "", "on " + ONE), ONE)

    def test_no_lifts(self):
        ship = plain_ship()
        self.assertEqual(done_text(ship, "", ""), "")
        self.assertEqual(done_text(ship, TWO + "\n" + ONE, ""), ONE + "\n" + TWO)

    def test_rows_are_done_in_their_order(self):
        told = done_text(plain_ship(), ONE, "off 0 0 0 0\non 1 2 1 0 b 0 0 1 oil 0\non 0 0 0 0 a 6 3 0 tea 1")
        self.assertEqual(told, "0 0 0 0 a 6 3 0 tea 1\n1 2 1 0 b 0 0 1 oil 0")

    def test_the_longest_pieces(self):
        figures = "9" * 60
        row = f"0 0 0 0 {'n' * 12} {figures} {figures} 1 {'s' * 12} {figures}"
        self.assertEqual(done_text(plain_ship(), "", "on " + row), row)

    def refuse_row(self, row):
        """A row of lifts that is not as told, ahead of all others and behind them."""
        for rows, line in (([row], 0), ([row, OFF], 0), ([OFF, row], 1), ([OFF, ON, row, row], 2)):
            with self.assertRaises(NoNote, msg=repr(row)) as caught:
                done_text(plain_ship(), ONE + "\n" + TWO, "\n".join(rows))
            self.assertEqual(caught.exception.line, line, repr(rows))

    def test_empty_rows(self):
        for text, line in (("\n", 0), (OFF + "\n", 1), ("\n" + OFF, 0), (OFF + "\n\n" + ON, 1),
                           (OFF + "\n" + ON + "\n", 2)):
            with self.assertRaises(NoNote) as caught:
                done_text(plain_ship(), ONE + "\n" + TWO, text)
            self.assertEqual(caught.exception.line, line)

    def test_the_first_piece(self):
        for word in ("of", "offf", "Off", "OFF", "on", "onn", "", "0", "lift", "\u043eff", "off\r", "sail"):
            self.refuse_row(word + " 0 0 0 1")
        for word in ("o", "onn", "On", "ON", "off", "", "0", "put", "\u043en", "on\t", "bring"):
            self.refuse_row(word + " 0 0 0 1 c 5 3 0 tea 1")

    def test_too_few_and_too_many_pieces(self):
        for row in (OFF, ON):
            pieces = row.split(" ")
            for count in range(len(pieces)):
                if count > 0:
                    self.refuse_row(" ".join(pieces[:count]))
                    self.refuse_row(" ".join(pieces[count:]))
            self.refuse_row(row + " 1")
            self.refuse_row(row + " a")
            self.refuse_row("0 " + row)
        self.refuse_row(OFF + " b 5 3 0 tea 1")
        self.refuse_row("on 0 0 0 1")
        self.refuse_row(OFF + " " + OFF)
        self.refuse_row(ONE)

    def test_blanks(self):
        for row in (OFF, ON):
            self.refuse_row(" " + row)
            self.refuse_row(row + " ")
            self.refuse_row(row + "\r")
            self.refuse_row(row.replace(" ", "  ", 1))
            self.refuse_row(row.replace(" ", "\t", 1))
            self.refuse_row("  ".join(row.rsplit(" ", 1)))

    def test_each_piece_that_is_not_as_told(self):
        for row in (OFF, ON):
            for at in range(1, len(row.split(" "))):
                pieces = row.split(" ")
                wrong = ["", "+1", "-1", "01", "00", "1.0", "A", "a" * 13, "1" * 61, "\u0661", "\u00e4", "a1"]
                if at in (3, 8):
                    wrong += ["2", "10", "1" * 60]
                wrong += ["0", "1"] if at in (5, 9) else ["a", "tea"]
                for piece in wrong:
                    self.refuse_row(" ".join(pieces[:at] + [piece] + pieces[at + 1:]))

    def refuse_doing(self, at, why, load_text, rows_text):
        with self.assertRaises(BadRow) as caught:
            done_text(plain_ship(), load_text, rows_text)
        self.assertEqual((caught.exception.at, caught.exception.why), (at, why))

    def test_bad_row_with_number_and_word(self):
        two, deck = ONE + "\n" + TWO, ONE + "\n0 2 1 0 d 5 3 0 tea 1"
        self.refuse_doing(0, "cell", two, "off 2 0 0 0")
        self.refuse_doing(0, "cell", two, "off 0 0 0 " + "9" * 60)
        self.refuse_doing(1, "cell", two, OFF + "\non 0 0 0 3 c 5 3 0 tea 1")
        self.refuse_doing(1, "empty", two, OFF + "\n" + OFF)
        self.refuse_doing(0, "full", two, ON)
        self.refuse_doing(0, "name", two, "on 0 0 0 2 a 5 3 0 tea 1")
        self.refuse_doing(0, "under", two, "off 0 0 0 0")
        self.refuse_doing(2, "under", two, OFF + "\noff 0 0 0 0\n" + ON)
        self.refuse_doing(0, "hatch", deck, "off 0 0 0 0")
        self.refuse_doing(0, "hatch", deck, ON)

    def test_the_loads_text_ahead_of_the_rows(self):
        bad = "off 1 0 0 0"
        for rows in ("off 0 0 0", OFF + "\n" + "off 0 0 0", bad, ""):
            self.refuse(done_text, NoNote, ONE + "\n" + TWO + "\n" + WRONG, rows, line=2)
            self.refuse(done_text, NoLoad, ONE + "\n" + FLOATING, rows)
            self.refuse(done_text, NoNote, FLOATING + "\n" + WRONG, rows, line=1)

    def test_no_note_at_a_row_ahead_of_bad_row(self):
        self.refuse(done_text, NoNote, ONE, "off 1 0 0 0\noff 0 0 0", line=1)
        self.refuse(done_text, NoNote, ONE, "off 1 0 0 0\noff 0 0 0 0\n", line=2)
        self.refuse(done_text, NoNote, ONE, "off 0 0 2 0\noff 1 0 0 0", line=0)
        self.refuse(done_text, BadRow, ONE, "off 1 0 0 0\noff 0 0 0 0")


class Both(unittest.TestCase):
    def check_both(self, load, plan):
        """The lifts as lifts_to tells them, and the plan's text behind them."""
        load_text, plan_text = written_load(load), written_load(plan)
        rows = lifts_text(load.ship, load_text, plan_text)
        lifts = lifts_to(load, plan)
        self.assertEqual(rows, "\n".join(written_lift(lift) for lift in lifts))
        self.assertEqual(done_text(load.ship, load_text, rows), plan_text)
        for count in range(len(lifts)):
            some = "\n".join(rows.split("\n")[:count])
            self.assertEqual(done_text(load.ship, load_text, some), written_load(after_lifts(load, lifts[:count])))

    def chance_load(self, chance, ship):
        cells = []
        for name_part in parts_of(ship):
            here = [cell for cell in cells_of(ship) if cell[:3] == name_part]
            cells += here[:chance.randrange(len(here) + 1)]
        names = [named(number) for number in range(26)]
        if chance.random() < 0.5:
            chance.shuffle(names)
        return Load(ship, [(cell, box(name, chance.choice([5, 5, 5, 6]))) for cell, name in zip(cells, names)])

    def test_by_chance(self):
        chance = random.Random(39)
        for at in range(40):
            ship = chance_ship(chance, 2, [])
            self.check_both(self.chance_load(chance, ship), self.chance_load(chance, ship))

    def test_at_the_bounds(self):
        """Texts of about twenty thousand signs for a hundred boxes, each of which moves."""
        ship = great_ship()
        boxes = [great_box(number, 10 ** 59) for number in range(100)]
        cells = cells_of(ship)[:100]
        load = Load(ship, list(zip(cells, boxes)))
        plan = Load(ship, list(zip(cells, reversed(boxes))))
        rows = lifts_text(ship, written_load(load), written_load(plan))
        self.assertEqual(len(rows.split("\n")), 200)
        self.assertEqual(done_text(ship, written_load(load), rows), written_load(plan))
        self.assertEqual(read_load(ship, done_text(ship, written_load(load), rows)).placed, plan.placed)


if __name__ == "__main__":
    unittest.main()
