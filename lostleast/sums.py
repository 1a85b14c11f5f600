"""Sums of whole numbers and of fractions, and fractions made whole."""

from math import lcm

from lostleast.ratio import Ratio


def made_whole(ratios):
    """Fractions times a number that makes all of them whole, and this number."""
    factor = 1
    for ratio in ratios:
        factor = lcm(factor, ratio.den)
    return [ratio.num * (factor // ratio.den) for ratio in ratios], factor


def ratio_sum(ratios):
    """The sum of fractions."""
    total = Ratio(0)
    for ratio in ratios:
        total = total + ratio
    return total


def product_sum(numbers, others):
    """The sum of the products of two lists of numbers, place by place."""
    return sum([number * other for number, other in zip(numbers, others)])


def row_sum(rows, factors, size):
    """The sum of lists of so many numbers, each list times its factor, place by place."""
    total = [0] * size
    for row, factor in zip(rows, factors):
        if factor != 0:
            total = [old + factor * number for old, number in zip(total, row)]
    return total
