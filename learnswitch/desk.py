"""The desk at which calls are handed in and answered."""

from learnswitch.frames import take_frame
from learnswitch.held import HIGHEST_TIME, Switch
from learnswitch.mirror import set_mirror, set_watch
from learnswitch.ports import plug_port, set_link, unplug_port
from learnswitch.rows import fix_row, flush_rows, join_group, leave_group, unfix_row
from learnswitch.sides import lock_side, set_apart, set_gate, set_rank, set_storm, unlock_side, unshut
from learnswitch.tell import look_up, tell_counts, tell_rows, tell_side, tell_vlan
from learnswitch.times import set_age, shorten_rows, tick
from learnswitch.vlans import add_pair, add_vlan, drop_vlan, set_native, take_pair

# How many numbers stand behind a call's own, by that number.
LENGTHS = (
    4, 1, 1, 2, 3, 2, 2, 1, 2, 2, 2, 3, 3, 1, 2, 2,
    2, 2, 3, 2, 3, 3, 2, 1, 2, 1, 5, 2, 1, 1, 1, 1,
)

BEGIN = 0
NO_SWITCH = -20

MOST_PORTS = 64
HIGHEST_CAP = 65536


class Desk:
    """Keeps the switch; there's none till begin has answered 0."""

    def __init__(self):
        self.switch = None


def answers(calls):
    desk = Desk()
    told = []
    place = 0
    while place < len(calls):
        number = calls[place]
        behind = place + 1 + LENGTHS[number]
        answer = answer_call(desk, number, calls[place + 1:behind])
        told.append(len(answer))
        told.extend(answer)
        place = behind
    return told


def answer_call(desk, number, given):
    if number == BEGIN:
        return begin(desk, given[0], given[1], given[2], given[3])
    if desk.switch is None:
        return [NO_SWITCH]
    if number <= 8:
        return answer_on_ways(desk.switch, number, given)
    if number <= 15:
        return answer_on_sides(desk.switch, number, given)
    if number <= 22:
        return answer_on_rows(desk.switch, number, given)
    if number <= 26:
        return answer_on_frames(desk.switch, number, given)
    return answer_on_all_held(desk.switch, number, given)


def begin(desk, ports, cap, age, hold):
    if not (1 <= ports <= MOST_PORTS and 1 <= cap <= HIGHEST_CAP):
        return [-1]
    if not (1 <= age <= HIGHEST_TIME and 0 <= hold <= HIGHEST_TIME):
        return [-1]
    desk.switch = Switch(ports, cap, age, hold)
    return [0]


def answer_on_ways(switch, number, given):
    if number == 1:
        return add_vlan(switch, given[0])
    if number == 2:
        return drop_vlan(switch, given[0])
    if number == 3:
        return set_native(switch, given[0], given[1])
    if number == 4:
        return add_pair(switch, given[0], given[1], given[2])
    if number == 5:
        return take_pair(switch, given[0], given[1])
    if number == 6:
        return plug_port(switch, given[0], given[1])
    if number == 7:
        return unplug_port(switch, given[0])
    return set_link(switch, given[0], given[1])


def answer_on_sides(switch, number, given):
    if number == 9:
        return set_apart(switch, given[0], given[1])
    if number == 10:
        return set_rank(switch, given[0], given[1])
    if number == 11:
        return set_gate(switch, given[0], given[1], given[2])
    if number == 12:
        return lock_side(switch, given[0], given[1], given[2])
    if number == 13:
        return unlock_side(switch, given[0])
    if number == 14:
        return unshut(switch, given[0], given[1])
    return set_storm(switch, given[0], given[1])


def answer_on_rows(switch, number, given):
    if number == 16:
        return set_age(switch, given[0], given[1])
    if number == 17:
        return shorten_rows(switch, given[0], given[1])
    if number == 18:
        return fix_row(switch, given[0], given[1], given[2])
    if number == 19:
        return unfix_row(switch, given[0], given[1])
    if number == 20:
        return join_group(switch, given[0], given[1], given[2])
    if number == 21:
        return leave_group(switch, given[0], given[1], given[2])
    return flush_rows(switch, given[0], given[1])


def answer_on_frames(switch, number, given):
    if number == 23:
        return set_mirror(switch, given[0])
    if number == 24:
        return set_watch(switch, given[0], given[1])
    if number == 25:
        return tick(switch, given[0])
    return take_frame(switch, given[0], given[1], given[2], given[3], given[4])


def answer_on_all_held(switch, number, given):
    if number == 27:
        return look_up(switch, given[0], given[1])
    if number == 28:
        return tell_rows(switch, given[0])
    if number == 29:
        return tell_counts(switch, given[0])
    if number == 30:
        return tell_vlan(switch, given[0])
    return tell_side(switch, given[0])
