"""The desk at which calls are handed in and answered."""

from learnswitch.held import Switch
from learnswitch.ports import plug_port, set_link, unplug_port
from learnswitch.sides import lock_side, set_apart, set_gate, set_rank, set_storm, unlock_side, unshut
from learnswitch.vlans import add_pair, add_vlan, drop_vlan, set_native, take_pair

# How many numbers stand behind a call's own, by that number. Calls that are
# not written yet stand here too: before begin they are passed over with -20.
LENGTHS = (
    4, 1, 1, 2, 3, 2, 2, 1, 2, 2, 2, 3, 3, 1, 2, 2,
    2, 2, 3, 2, 3, 3, 2, 1, 2, 1, 5, 2, 1, 1, 1, 1,
)

BEGIN = 0
NO_SWITCH = -20

MOST_PORTS = 64
HIGHEST_CAP = 65536
HIGHEST_TIME = 1000000


class Desk:
    """Keeps the switch; there's none till begin has answered 0."""

    def __init__(self):
        self.switch = None


def answers(calls):
    desk = Desk()
    told = []
    place = 0
    while place < len(calls):
        number = calls[place]
        behind = place + 1 + LENGTHS[number]
        answer = answer_call(desk, number, calls[place + 1:behind])
        told.append(len(answer))
        told.extend(answer)
        place = behind
    return told


def answer_call(desk, number, given):
    if number == BEGIN:
        return begin(desk, given[0], given[1], given[2], given[3])
    if desk.switch is None:
        return [NO_SWITCH]
    if number <= 8:
        return answer_on_ways(desk.switch, number, given)
    return answer_on_sides(desk.switch, number, given)


def begin(desk, ports, cap, age, hold):
    if not (1 <= ports <= MOST_PORTS and 1 <= cap <= HIGHEST_CAP):
        return [-1]
    if not (1 <= age <= HIGHEST_TIME and 0 <= hold <= HIGHEST_TIME):
        return [-1]
    desk.switch = Switch(ports, cap, age, hold)
    return [0]


def answer_on_ways(switch, number, given):
    if number == 1:
        return add_vlan(switch, given[0])
    if number == 2:
        return drop_vlan(switch, given[0])
    if number == 3:
        return set_native(switch, given[0], given[1])
    if number == 4:
        return add_pair(switch, given[0], given[1], given[2])
    if number == 5:
        return take_pair(switch, given[0], given[1])
    if number == 6:
        return plug_port(switch, given[0], given[1])
    if number == 7:
        return unplug_port(switch, given[0])
    return set_link(switch, given[0], given[1])


def answer_on_sides(switch, number, given):
    if number == 9:
        return set_apart(switch, given[0], given[1])
    if number == 10:
        return set_rank(switch, given[0], given[1])
    if number == 11:
        return set_gate(switch, given[0], given[1], given[2])
    if number == 12:
        return lock_side(switch, given[0], given[1], given[2])
    if number == 13:
        return unlock_side(switch, given[0])
    if number == 14:
        return unshut(switch, given[0], given[1])
    if number == 15:
        return set_storm(switch, given[0], given[1])
    raise NotImplementedError(f"the call {number} is not written yet")
