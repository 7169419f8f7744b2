"""Which values are of which kind."""

LETTERS = "abcdefghijklmnopqrstuvwxyz"
MOST_LETTERS = 8


def is_whole(number, least, most):
    """Whether this, of anything, is a whole number from least to most."""
    # Python counts True and False as integers; here they are none.
    return isinstance(number, int) and not isinstance(number, bool) and least <= number <= most


def is_name(name):
    """Whether this, of anything, is a NAME: a text of one to eight small letters."""
    if not isinstance(name, str) or not 1 <= len(name) <= MOST_LETTERS:
        return False
    return all([letter in LETTERS for letter in name])
