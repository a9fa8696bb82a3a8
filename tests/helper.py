"""What the tests share: the calls by name, and the answers one by one."""

from learnswitch.desk import answers

LEAST = -2 ** 63
GREATEST = 2 ** 63 - 1

NAMES = (
    "begin vlan novlan native pair unpair plug unplug link apart rank gate lock unlock unshut storm "
    "age shorten fix unfix join leave flush mirror watch tick frame look rows counts vcounts side"
).split()
LENGTHS = dict(zip(NAMES, (
    4, 1, 1, 2, 3, 2, 2, 1, 2, 2, 2, 3, 3, 1, 2, 2,
    2, 2, 3, 2, 3, 3, 2, 1, 2, 1, 5, 2, 1, 1, 1, 1)))

START = ("begin", 3, 100, 300, 20)


def flat(calls):
    """Calls such as ("vlan", 7), as the one list that is handed in."""
    numbers = []
    for call in calls:
        numbers.append(NAMES.index(call[0]))
        numbers.extend(call[1:])
    return numbers


def ask(*calls):
    """The answers to the calls, a list for each call."""
    told = answers(flat(calls))
    split = []
    while told:
        split.append(told[1:told[0] + 1])
        told = told[told[0] + 1:]
    return split


def last(*calls):
    """What the last of the calls is answered, on a switch of three ports."""
    return ask(START, *calls)[-1]
