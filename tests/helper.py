"""What the tests share: the calls by name, and the answers one by one."""

import unittest

from learnswitch.desk import answers

LEAST = -2 ** 63
GREATEST = 2 ** 63 - 1

EVERYBODY = 2 ** 48 - 1
GROUP = 2 ** 40
LAST_OF_NO_GROUP = 2 ** 48 - 1 - 2 ** 40
FIRST_RESERVED = 1652522221568
LAST_RESERVED = 1652522221583
CLOCK_END = 2 ** 62

NAMES = (
    "begin vlan novlan native pair unpair plug unplug link apart rank gate lock unlock unshut storm "
    "age shorten fix unfix join leave flush mirror watch tick frame look rows counts vcounts side"
).split()
LENGTHS = dict(zip(NAMES, (
    4, 1, 1, 2, 3, 2, 2, 1, 2, 2, 2, 3, 3, 1, 2, 2,
    2, 2, 3, 2, 3, 3, 2, 1, 2, 1, 5, 2, 1, 1, 1, 1)))

START = ("begin", 3, 100, 300, 20)

# On a switch that START began, where nothing else was made.
NO_SIDES = (-1, 3, 64, LEAST, GREATEST)
NO_VLANS = (-1, 0, 2, 4094, 4095, LEAST, GREATEST)
NO_FLAGS = (-1, 2, LEAST, GREATEST)


def flat(calls):
    """Calls such as ("vlan", 7), as the one list that is handed in."""
    numbers = []
    for call in calls:
        numbers.append(NAMES.index(call[0]))
        numbers.extend(call[1:])
    return numbers


def ask(*calls):
    """The answers to the calls, a list for each call."""
    told = answers(flat(calls))
    split = []
    while told:
        split.append(told[1:told[0] + 1])
        told = told[told[0] + 1:]
    return split


def last(*calls):
    """What the last of the calls is answered, on a switch of three ports."""
    return ask(START, *calls)[-1]


def frame(port, to, source, tag=-1, rank=0):
    return ("frame", port, to, source, tag, rank)


def out(*ports, copies=0, by=-1):
    """The answer to a frame that goes out so; a port by itself bears no tag."""
    told = [0, len(ports)]
    for port in ports:
        told.extend(port if isinstance(port, tuple) else (port, -1, 0))
    return told + [copies, by]


def counted(taken=0, passed=0, given=0, **dropped):
    """The answer to counts; dropped by reason, such as r3=1."""
    return [0, taken, passed, given] + [dropped.get(f"r{reason}", 0) for reason in range(3, 17)]


class Case(unittest.TestCase):

    def refuses(self, number, calls, *before):
        for call in calls:
            self.assertEqual(last(*before, call), [number], call)

    def takes(self, calls, *before):
        self.refuses(0, calls, *before)

    def tells(self, *steps, start=START):
        """Each step is a call alone, answered 0, or a call and its answer in a pair."""
        calls = [step[0] if isinstance(step[0], tuple) else step for step in steps]
        wanted = [step[1] if isinstance(step[0], tuple) else [0] for step in steps]
        told = ask(start, *calls)
        for call, answer, right in zip(calls, told[1:], wanted, strict=True):
            self.assertEqual(answer, right, call)
        self.assertEqual(told[0], [0])
