"""What several modules ask of the numbers that are handed in."""

from evenhues.errors import NoNumber

MOST_PLACES = 40
LEAST_SIZE = 2
MOST_SIZE = 8


def is_whole(thing, least, most):
    """Tell whether the thing is a whole number from least to most."""
    # Python counts True and False as ints; here they are no whole numbers.
    return isinstance(thing, int) and not isinstance(thing, bool) and least <= thing <= most


def are_wholes(things, least, most):
    """Tell whether each of the things is a whole number from least to most."""
    return all([is_whole(thing, least, most) for thing in things])


def need_whole(thing, least, most):
    """Refuse what is no whole number from least to most."""
    if not is_whole(thing, least, most):
        raise NoNumber(f"a whole number from {least} to {most} is due")


def need_size(thing):
    """Refuse what is no size."""
    need_whole(thing, LEAST_SIZE, MOST_SIZE)


def need_length(thing):
    """Refuse what is no length."""
    need_whole(thing, 0, MOST_PLACES)


def need_first(thing):
    """Refuse what is no first place of a row that may be handed in."""
    need_whole(thing, 0, MOST_PLACES)


def need_step(thing):
    """Refuse what is no step of a row that may be handed in."""
    need_whole(thing, 1, MOST_PLACES)
