"""Masks: integers in which a bit stands for a number."""


def numbers_in(mask):
    """The numbers whose bits stand in the mask."""
    return [number for number in range(mask.bit_length()) if (mask >> number) & 1 == 1]


def sums(mask, other):
    """The sums of a number of the one mask and a number of the other one."""
    found = 0
    for number in numbers_in(other):
        found = found | (mask << number)
    return found


def differences(mask, other):
    """The differences, if not negative, of a number of the one mask and a number of the other one."""
    found = 0
    for number in numbers_in(other):
        found = found | (mask >> number)
    return found
