"""Rests by a number: powers, what goes into both of two numbers, what undoes a number."""

from primepapers.checks import want_far, want_number, want_often


def raised(base, often, n):
    """The rest by n of 1 multiplied by base so often."""
    want_far(base, "base")
    want_often(often, "often")
    want_number(n, "n")
    return power_rest(base, often, n)


def power_rest(base, often, n):
    # 1 itself is no rest by 1.
    done = 1 % n
    square = base % n
    left = often
    while left > 0:
        if left % 2 == 1:
            done = done * square % n
        square = square * square % n
        left = left // 2
    return done


def shared(one, other):
    """The greatest whole number that goes into both, 0 of 0 and 0."""
    want_far(one, "one")
    want_far(other, "other")
    return greatest_in_both(one, other)


def greatest_in_both(one, other):
    great = abs(one)
    small = abs(other)
    while small > 0:
        great, small = small, great % small
    return great


def undone(number, n):
    """The rest that, times number, has the rest of 1 by n; None where there is none."""
    want_far(number, "number")
    want_number(n, "n")
    return undoing_rest(number, n)


def undoing_rest(number, n):
    # Throughout, great is great_times * number and small is small_times * number, but for a multiple of n.
    great, great_times = n, 0
    small, small_times = number % n, 1
    while small > 0:
        often = great // small
        great, small = small, great - often * small
        great_times, small_times = small_times, great_times - often * small_times
    if great != 1:
        return None
    return great_times % n
