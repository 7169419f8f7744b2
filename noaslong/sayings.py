"""Rows that are said to a desk: which there are, and what stands in them."""

from noaslong.errors import NoRow
from noaslong.figures import number_of
from noaslong.kinds import is_name

# What stands behind each first word: a name to keep something by, the name of a kept yard, of a kept box, of a kept
# box that is not eager, one thing, any things, or a word that stands there as it is.
SHAPES = {
    "yard": ("name",),
    "mirror": ("name", "yard"),
    "part": ("name", "yard", "away", "things", "granted", "things"),
    "beside": ("name", "yard", "yard"),
    "show": ("yard",),
    "worth": ("yard", "things"),
    "box": ("name", "yard"),
    "eager": ("name", "yard"),
    "copy": ("name", "box"),
    "left": ("name", "box"),
    "ask": ("box", "thing", "things"),
    "back": ("box",),
    "yes": ("box",),
    "no": ("box",),
    "unasked": ("box",),
    "paper": ("plain box", "thing"),
    "open": ("plain box",),
    "history": ("box",),
}
FIXED = ("away", "granted")


def read_row(row):
    """The first word of the row, and tuples (place, value) of what stands behind it; NoRow, of anything else."""
    if not isinstance(row, str):
        raise NoRow("no text")
    head, feed, text = row.partition("\n")
    word, *words = head.split(" ")
    # Just behind a yard's name there is a line feed, and then a text.
    if word not in SHAPES or (feed == "\n") != (word == "yard"):
        raise NoRow("no row that a desk understands")
    given = read_places(words, SHAPES[word])
    if word == "yard":
        given.append(("text", text))
    return (word, given)


def read_places(words, shape):
    """Tuples (place, value) of what the words give for the shape, but for words that stand as they are; NoRow."""
    left = words
    given = []
    for place in shape:
        if place == "things":
            numbers = leading_numbers(left)
            given.append((place, numbers))
            left = left[len(numbers):]
        else:
            value = read_place(left, place)
            if place not in FIXED:
                given.append((place, value))
            left = left[1:]
    if left:
        raise NoRow("words too many, or others than told")
    return given


def leading_numbers(words):
    """The numbers that the words are, up to the first one that is none."""
    numbers = []
    for word in words:
        number = number_of(word)
        if number is None:
            return numbers
        numbers.append(number)
    return numbers


def read_place(words, place):
    """What the first one of the words stands for at this place; NoRow."""
    value = value_of(words[0], place) if words else None
    if value is None:
        raise NoRow("words too few, or others than told")
    return value


def value_of(word, place):
    """What the word stands for at this place, or None where it cannot stand there."""
    if place == "thing":
        return number_of(word)
    if place in FIXED:
        return word if word == place else None
    return word if is_name(word) else None
