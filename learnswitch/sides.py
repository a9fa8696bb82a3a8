"""The calls 9 to 15: what is set for a side, alone or with a VLAN."""

from learnswitch.forget import forget_of_all, forget_of_vlan
from learnswitch.held import GATE_CLOSED, GATE_OPEN, HIGHEST_RANK, LEARNED, NO_BOUND, SECURE, Row
from learnswitch.held import is_locked, is_side

HIGHEST_MOST = 65536
HIGHEST_BOUND = 1000000000


def set_apart(switch, number, x):
    if not is_side(switch, number):
        return [-1]
    if not 0 <= x <= 1:
        return [-2]
    side = switch.sides[number]
    side.apart = x
    return [0]


def set_rank(switch, number, r):
    if not is_side(switch, number):
        return [-1]
    if not 0 <= r <= HIGHEST_RANK:
        return [-2]
    side = switch.sides[number]
    side.rank = r
    return [0]


def set_gate(switch, number, v, g):
    if not is_side(switch, number):
        return [-1]
    if v not in switch.vlans:
        return [-2]
    if not GATE_CLOSED <= g <= GATE_OPEN:
        return [-3]
    vlan = switch.vlans[v]
    vlan.gates[number] = g
    if g == GATE_CLOSED:
        forget_of_vlan(vlan, [number])
    return [0]


def lock_side(switch, number, most, shut):
    if not is_side(switch, number):
        return [-1]
    if not 1 <= most <= HIGHEST_MOST:
        return [-2]
    if not 0 <= shut <= 1:
        return [-3]
    side = switch.sides[number]
    side.most = most
    side.lock_shuts = shut
    forget_of_all(switch, [number])
    return [0]


def unlock_side(switch, number):
    if not is_side(switch, number):
        return [-1]
    side = switch.sides[number]
    if not is_locked(side):
        return [-2]
    side.most = 0
    side.lock_shuts = 0
    for vlan in switch.vlans.values():
        loosen(vlan, number, switch.now)
    return [0]


def loosen(vlan, side, now):
    """Make learned rows of the VLAN's secure ones at the side."""
    for hw in list(vlan.rows):
        row = vlan.rows[hw]
        if row.kind == SECURE and row.side == side:
            vlan.rows[hw] = Row(LEARNED, side, now + vlan.age, now)


def unshut(switch, number, v):
    if not is_side(switch, number):
        return [-1]
    if v not in switch.vlans:
        return [-2]
    vlan = switch.vlans[v]
    if vlan.shut[number] == 0:
        return [-2]
    vlan.shut[number] = 0
    return [0]


def set_storm(switch, number, n):
    if not is_side(switch, number):
        return [-1]
    if not NO_BOUND <= n <= HIGHEST_BOUND:
        return [-2]
    side = switch.sides[number]
    side.storm = n
    return [0]
