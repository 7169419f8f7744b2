"""Which values are of which kind."""


def is_whole(number, least, most):
    """Whether this, of anything, is a whole number from least to most."""
    # Python counts True and False as integers; here they are none.
    return isinstance(number, int) and not isinstance(number, bool) and least <= number <= most
