"""What the modules ask of what is handed in, and the bounds of the numbers.

No refusal shows the thing that it refuses: a thing of whatever kind may be too great or too deep to be written.
"""

from primepapers.errors import NoNumber

MOST = 10 ** 30
MOST_TRIED = 10 ** 9
# A prime up to 10 ** 30, and so each number in a paper of it, has no more figures.
MOST_FIGURES = 30


def is_whole(thing):
    # Python counts True and False among its ints; here they are no numbers.
    return isinstance(thing, int) and not isinstance(thing, bool)


def is_between(thing, least, most):
    return is_whole(thing) and least <= thing <= most


def is_far(thing):
    return is_between(thing, -MOST, MOST)


def want_between(thing, least, most, name):
    if not is_between(thing, least, most):
        raise NoNumber(f"{name} is no whole number from {least} to {most}")


def want_odd(thing, least, most, name):
    if not is_between(thing, least, most) or thing % 2 == 0:
        raise NoNumber(f"{name} is no odd number from {least} to {most}")


def want_number(thing, name):
    want_between(thing, 1, MOST, name)


def want_tried(thing, name):
    want_between(thing, 1, MOST_TRIED, name)


def want_far(thing, name):
    want_between(thing, -MOST, MOST, name)


def want_often(thing, name):
    want_between(thing, 0, MOST, name)
