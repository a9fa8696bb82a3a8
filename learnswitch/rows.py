"""The calls 18 to 22: which rows and group rows a VLAN is given, and which are taken."""

from learnswitch.forget import forget_of_vlan
from learnswitch.hardware import EVERYBODY, is_group, is_hardware, is_reserved
from learnswitch.held import FIXED, NO_SIDE, NO_VLAN, Row, is_full, is_side, is_side_or_none


def fix_row(switch, v, hw, side):
    if v not in switch.vlans:
        return [-1]
    if not 1 <= hw <= EVERYBODY or is_group(hw):
        return [-2]
    if not is_side_or_none(switch, side):
        return [-3]
    vlan = switch.vlans[v]
    if hw not in vlan.rows and is_full(switch, vlan):
        return [-4]
    vlan.rows[hw] = Row(FIXED, side, 0, 0)
    return [0]


def unfix_row(switch, v, hw):
    if v not in switch.vlans:
        return [-1]
    vlan = switch.vlans[v]
    if hw not in vlan.rows or vlan.rows[hw].kind != FIXED:
        return [-2]
    vlan.rows.pop(hw)
    return [0]


def may_be_joined(g):
    return is_hardware(g) and is_group(g) and g != EVERYBODY and not is_reserved(g)


def join_group(switch, v, g, side):
    if v not in switch.vlans:
        return [-1]
    if not may_be_joined(g):
        return [-2]
    if not is_side(switch, side):
        return [-3]
    vlan = switch.vlans[v]
    if g not in vlan.groups:
        if is_full(switch, vlan):
            return [-4]
        vlan.groups[g] = {}
    group = vlan.groups[g]
    group[side] = True
    return [0]


def leave_group(switch, v, g, side):
    if v not in switch.vlans:
        return [-1]
    vlan = switch.vlans[v]
    if g not in vlan.groups or side not in vlan.groups[g]:
        return [-2]
    group = vlan.groups[g]
    group.pop(side)
    if len(group) == 0:
        vlan.groups.pop(g)
    return [0]


def flush_rows(switch, v, side):
    if v != NO_VLAN and v not in switch.vlans:
        return [-1]
    if not is_side_or_none(switch, side):
        return [-2]
    numbers = list(switch.vlans) if v == NO_VLAN else [v]
    sides = list(range(len(switch.sides))) if side == NO_SIDE else [side]
    return [sum([forget_of_vlan(switch.vlans[number], sides) for number in numbers])]
