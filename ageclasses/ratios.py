"""Whole numbers and fractions; a fraction is its upper and its lower number, in a tuple."""


def common_divisor(a, b):
    while b > 0:
        rest = a % b
        a = b
        b = rest
    return a


def common_divisor_of(numbers):
    """Of all the numbers together; 0 where there are none."""
    divisor = 0
    for number in numbers:
        divisor = common_divisor(divisor, number)
    return divisor


def power(base, exponent):
    product = 1
    for k in range(exponent):
        product = product * base
    return product


def fraction(upper, lower):
    """In lowest terms: every fraction of the program is made here, so two equal ones look equal."""
    divisor = common_divisor(upper, lower)
    return (upper // divisor, lower // divisor)


def plus(a, b):
    return fraction(a[0] * b[1] + b[0] * a[1], a[1] * b[1])


def times(a, b):
    return fraction(a[0] * b[0], a[1] * b[1])


def over(a, b):
    """a divided by b, which isn't 0."""
    return fraction(a[0] * b[1], a[1] * b[0])


def added(fractions):
    total = fraction(0, 1)
    for part in fractions:
        total = plus(total, part)
    return total
