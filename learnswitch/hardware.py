"""Hardware numbers: which numbers are such, and which stand for groups."""

# 2^48 - 1, the highest of all, stands for everybody.
EVERYBODY = 281474976710655

# A number is a group's if it divided by this one, 2^40, is odd.
GROUP_STEP = 1099511627776

FIRST_RESERVED = 1652522221568
LAST_RESERVED = 1652522221583


def is_hardware(number):
    return 0 <= number <= EVERYBODY


def is_group(number):
    """Of a hardware number: whether it is a group's."""
    return number // GROUP_STEP % 2 == 1


def is_reserved(number):
    return FIRST_RESERVED <= number <= LAST_RESERVED
