"""Boxes and loads written as texts, and loads read from texts."""

from stowhold.errors import NoNote
from stowhold.loads import Load

FIGURES = "0123456789"
LETTERS = "abcdefghijklmnopqrstuvwxyz"
MOST_FIGURES = 60
MOST_LETTERS = 12


def is_number(piece):
    if len(piece) > MOST_FIGURES or not made_of(piece, FIGURES):
        return False
    return piece == "0" or piece[0] != "0"


def is_word(piece):
    return len(piece) <= MOST_LETTERS and made_of(piece, LETTERS)


def is_flag(piece):
    return piece in ("0", "1")


def made_of(piece, signs):
    # Not isdigit or islower: these take figures and letters of other scripts too.
    return len(piece) > 0 and all([sign in signs for sign in piece])


# What each piece of a written cell and of a written box is to be.
CELL_FORM = (is_number, is_number, is_flag, is_number)
BOX_FORM = (is_word, is_number, is_number, is_flag, is_word, is_number)


def written_box(box):
    return written(box)


def written_load(load):
    return "\n".join([written(cell + box) for cell, box in load.placed])


def written(things):
    return " ".join([str(thing) for thing in things])


def read_load(ship, text):
    rows = read_rows(text, [CELL_FORM + BOX_FORM])
    return Load(ship, [(cell_in(pieces[:4]), box_in(pieces[4:])) for pieces in rows])


def read_rows(text, forms):
    # Not splitlines, which takes other line ends too: these are signs within a row, and no piece may have them.
    rows = [row.split(" ") for row in text.split("\n")] if text != "" else []
    for line, pieces in enumerate(rows):
        if not any([fits(pieces, form) for form in forms]):
            raise NoNote(line)
    return rows


def fits(pieces, form):
    return len(pieces) == len(form) and all([holds(piece) for holds, piece in zip(form, pieces)])


def cell_in(pieces):
    return tuple([int(piece) for piece in pieces])


def box_in(pieces):
    return (pieces[0], int(pieces[1]), int(pieces[2]), int(pieces[3]), pieces[4], int(pieces[5]))
