"""Whole numbers, written in figures."""

FIGURES = "0123456789"


def number_of(word):
    """The whole number that is written so, without noughts ahead of another figure, or None where none is."""
    if word == "" or (word[0] == "0" and word != "0"):
        return None
    number = 0
    # Read figure by figure, as Python's own reading takes other signs too, and refuses very many figures.
    for figure in word:
        if figure not in FIGURES:
            return None
        number = number * 10 + FIGURES.index(figure)
    return number


def numbers_of(words):
    """The numbers that the words are, or None where one of them is none."""
    numbers = [number_of(word) for word in words]
    return None if None in numbers else numbers


def written(numbers):
    """The numbers in figures, one blank between them."""
    return " ".join([str(number) for number in numbers])
