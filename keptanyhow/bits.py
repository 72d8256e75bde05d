"""Bits: sets of numbers from 0 on, each told by an integer that has the bits of these numbers."""


def bits_of(numbers):
    """The bits of some numbers."""
    bits = 0
    for number in numbers:
        bits |= 1 << number
    return bits


def numbers_of(bits):
    """The ascending list of the numbers whose bits are set."""
    numbers = []
    rest = bits
    while rest > 0:
        lowest = rest & -rest
        numbers.append(lowest.bit_length() - 1)
        rest ^= lowest
    return numbers


def lie_within(bits, others):
    """Whether all of some bits are among the others."""
    return bits & ~others == 0
