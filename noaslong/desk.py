"""A desk, which keeps yards and boxes by names, and answers rows."""

from noaslong.beside import Beside
from noaslong.boxes import Box
from noaslong.eager import Eager
from noaslong.errors import NoSuch
from noaslong.figures import written
from noaslong.mirrors import Mirror
from noaslong.openness import is_open
from noaslong.papers import paper
from noaslong.parts import Part
from noaslong.rests import rest_of
from noaslong.sayings import read_row
from noaslong.texts import answer_word, history, read_yard, yard_text


def keep_yard(desk, name, yard):
    """Keeps the yard in the place of an elder one."""
    desk.yards[name] = yard
    return "ok"


def keep_box(desk, name, box):
    """Keeps the box in the place of an elder one, eager or not."""
    desk.boxes[name] = box
    return "ok"


def keep_read(desk, name, text):
    """Keeps the yard whose text this is."""
    return keep_yard(desk, name, read_yard(text))


def keep_mirror(desk, name, yard):
    """Keeps the mirror of a yard."""
    return keep_yard(desk, name, Mirror(yard))


def keep_part(desk, name, yard, away, granted):
    """Keeps a part of a yard."""
    return keep_yard(desk, name, Part(yard, away=away, granted=granted))


def keep_beside(desk, name, one, other):
    """Keeps two yards side by side."""
    return keep_yard(desk, name, Beside(one, other))


def keep_left(desk, name, box):
    """Keeps what is left of a box."""
    return keep_yard(desk, name, rest_of(box))


def keep_new_box(desk, name, yard):
    """Keeps a new box of a yard."""
    return keep_box(desk, name, Box(yard))


def keep_new_eager(desk, name, yard):
    """Keeps a new eager box of a yard."""
    return keep_box(desk, name, Eager(yard))


def keep_copy(desk, name, box):
    """Keeps a copy of a box."""
    return keep_box(desk, name, box.copied())


def tell_yard(desk, yard):
    """The text of a yard."""
    return yard_text(yard)


def tell_worth(desk, yard, heap):
    """What a heap of a yard is worth."""
    return str(yard.worth(heap))


def tell_answers(desk, box, thing, others):
    """What a box says, asked of one thing after another."""
    return " ".join([answer_word(truth) for truth in box.play([thing, *others])])


def tell_back(desk, box):
    """The thing that was asked last, which is taken back."""
    return str(box.back())


def tell_yes(desk, box):
    """What a box has said yes to."""
    return written(box.yes())


def tell_no(desk, box):
    """What a box has said no to."""
    return written(box.no())


def tell_unasked(desk, box):
    """What was not asked yet."""
    return written(box.unasked())


def tell_paper(desk, box, thing):
    """The paper of what a box said to a thing."""
    word, heap = paper(box, thing)
    return f"{word} {written(heap)}"


def tell_openness(desk, box):
    """Whether a box is open or settled."""
    return "open" if is_open(box) else "settled"


def tell_history(desk, box):
    """The text of what was asked of a box."""
    return history(box)


ACTIONS = {
    "yard": keep_read,
    "mirror": keep_mirror,
    "part": keep_part,
    "beside": keep_beside,
    "show": tell_yard,
    "worth": tell_worth,
    "box": keep_new_box,
    "eager": keep_new_eager,
    "copy": keep_copy,
    "left": keep_left,
    "ask": tell_answers,
    "back": tell_back,
    "yes": tell_yes,
    "no": tell_no,
    "unasked": tell_unasked,
    "paper": tell_paper,
    "open": tell_openness,
    "history": tell_history,
}


class Desk:
    """Keeps yards and boxes by names, and answers each row with a text."""

    def __init__(self):
        self.yards = {}
        self.boxes = {}
        self.answered = 0
        self.playings = []

    def say(self, row):
        """The answer to the row; NoRow, NoSuch, then as the stages refuse."""
        word, given = read_row(row)
        # All names are looked up ahead of anything that may be refused by a stage.
        found = [self.meant(place, value) for place, value in given]
        action = ACTIONS[word]
        answer = action(self, *found)
        self.answered += 1
        return answer

    def play(self, rows):
        """The answers to the rows, said one after another; the first that is refused ends it."""
        self.playings.append(("begin", self.answered))
        try:
            return [self.say(row) for row in rows]
        finally:
            self.playings.append(("end", self.answered))

    def log(self):
        """Of each playing, how many rows had been answered at its begin and at its end."""
        return list(self.playings)

    def meant(self, place, value):
        """What is kept by the name that stands at this place, or the value itself where that names none; NoSuch."""
        if place == "yard":
            return kept_by(self.yards, value)
        if place in ("box", "plain box"):
            box = kept_by(self.boxes, value)
            # An eager box is no such thing where one that is not eager is asked for.
            if place == "plain box" and isinstance(box, Eager):
                raise NoSuch(value)
            return box
        return value


def kept_by(shelf, name):
    """What is kept by the name; NoSuch."""
    if name not in shelf:
        raise NoSuch(name)
    return shelf[name]
