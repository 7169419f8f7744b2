"""Yards and histories of boxes, written as texts and read again."""

from noaslong.boxes import Box
from noaslong.eager import Eager
from noaslong.errors import NoText, NoYard
from noaslong.figures import number_of, numbers_of, written
from noaslong.lots import Lots
from noaslong.rows import Rows
from noaslong.seats import Seats
from noaslong.ties import Ties

NO_SEATS = "-"


def yard_text(yard):
    """The text of a yard of one of the four sorts; NoYard, of one of another sort."""
    if isinstance(yard, Ties):
        return lined([f"ties {yard.places()}"] + [written(pair) for pair in yard.pairs()])
    if isinstance(yard, Rows):
        return lined(["rows"] + [str(row) for row in yard.rows()])
    if isinstance(yard, Lots):
        return lined([" ".join(["lots"] + [str(top) for top in yard.tops()])] + [str(lot) for lot in yard.lots()])
    if isinstance(yard, Seats):
        return lined([f"seats {yard.seats()}"] + [written(row) if row else NO_SEATS for row in yard.rows()])
    raise NoYard("sort", None)


def lined(rows):
    """The rows as a text, a line feed behind each."""
    return "".join([f"{row}\n" for row in rows])


def read_yard(text):
    """The yard whose text this is; NoText, of anything else."""
    if not isinstance(text, str) or text == "":
        raise NoText(0)
    rows = text.split("\n")
    for number in range(1, len(rows)):
        check_rows(rows[:number])
    check_end(rows)
    return yard_of(rows[:-1])


def check_rows(rows):
    """NoText by the last one of the rows, where all of them together are no yard's text."""
    try:
        yard_of(rows)
    except NoYard:
        raise NoText(len(rows)) from None


def check_end(rows):
    """NoText, where something stands behind the last line feed of the text that was split into these rows."""
    if rows[-1] != "":
        raise NoText(len(rows))


def yard_of(rows):
    """The yard whose text has just these rows; NoYard, where there is none."""
    # What is not written as it should be is None here, and no sort of yard is made of that.
    word, *words = rows[0].split(" ")
    head = numbers_of(words)
    things = [numbers_of(row.split(" ")) for row in rows[1:]]
    if word == "ties":
        return Ties(only(head), [tied(thing) for thing in things])
    if word == "rows" and head == []:
        return Rows([only(thing) for thing in things])
    if word == "lots":
        return Lots(head, [only(thing) for thing in things])
    if word == "seats":
        return Seats(only(head), [[] if row == NO_SEATS else thing for row, thing in zip(rows[1:], things)])
    raise NoYard("sort", None)


def only(numbers):
    """The one number that there is, else None."""
    return numbers[0] if numbers is not None and len(numbers) == 1 else None


def tied(numbers):
    """The numbers as a tie, None of none."""
    return None if numbers is None else tuple(numbers)


def history(box):
    """The text of what was asked of a box, or an eager one, and of its answers."""
    return lined([answer_row(thing, truth) for thing, truth in box.answers()])


def answer_row(thing, truth):
    """The row of one ask."""
    return f"{thing} {answer_word(truth)}"


def answer_word(truth):
    """The word for an answer."""
    return "yes" if truth else "no"


def read_history(yard, text, *, eager=False):
    """The box of the yard, or the eager one, whose history this is; NoText, of anything else."""
    box = Eager(yard) if eager is True else Box(yard)
    if not isinstance(text, str):
        raise NoText(0)
    rows = text.split("\n")
    for number, row in enumerate(rows[:-1], start=1):
        if not goes_on(box, row):
            raise NoText(number)
    check_end(rows)
    return box


def goes_on(box, row):
    """Whether the row may come next in the box's history; its thing, if it is unasked, is asked."""
    thing = number_of(row.partition(" ")[0])
    return thing in box.unasked() and row == answer_row(thing, box.ask(thing))
