"""Divisors and congruences of integers."""


def common_divisor(one, other):
    """The greatest common divisor of two integers that are not negative."""
    while other > 0:
        one, other = other, one % other
    return one


def common_multiple(one, other):
    """The least common multiple of two positive integers."""
    return one // common_divisor(one, other) * other


def reciprocal(number, modulus):
    """What times the number is congruent to 1, for a number without a common divisor with the modulus."""
    # In each pair the first item is congruent to the second one times the number.
    high, low = (modulus, 0), (number % modulus, 1)
    while low[0] > 0:
        times = high[0] // low[0]
        high, low = low, (high[0] - times * low[0], high[1] - times * low[1])
    return high[1] % modulus
