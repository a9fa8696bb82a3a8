"""The calls 1 to 5: which VLANs are there, and which side is in which."""

from learnswitch.forget import forget_of_vlan
from learnswitch.held import NO_VLAN, Vlan, is_side, side_is_in

HIGHEST = 4094
MOST_VLANS = 64


def add_vlan(switch, v):
    if not 1 <= v <= HIGHEST:
        return [-1]
    if v in switch.vlans:
        return [-2]
    if len(switch.vlans) >= MOST_VLANS:
        return [-3]
    switch.vlans[v] = Vlan(switch.age, len(switch.sides))
    return [0]


def drop_vlan(switch, v):
    if v not in switch.vlans:
        return [-1]
    if any([side_is_in(side, v) for side in switch.sides]):
        return [-2]
    switch.vlans.pop(v)
    return [0]


def set_native(switch, number, v):
    if not is_side(switch, number):
        return [-1]
    if v != NO_VLAN and v not in switch.vlans:
        return [-2]
    side = switch.sides[number]
    before = side.native
    if v == before:
        return [0]
    if v in list(side.pairs.values()):
        return [-3]
    side.native = v
    if before != NO_VLAN:
        forget_of_vlan(switch.vlans[before], [number])
    return [0]


def add_pair(switch, number, tag, v):
    if not is_side(switch, number):
        return [-1]
    if not 1 <= tag <= HIGHEST:
        return [-2]
    if v not in switch.vlans:
        return [-3]
    side = switch.sides[number]
    if tag in side.pairs:
        return [-4]
    if side_is_in(side, v):
        return [-5]
    side.pairs[tag] = v
    return [0]


def take_pair(switch, number, tag):
    if not is_side(switch, number):
        return [-1]
    side = switch.sides[number]
    if tag not in side.pairs:
        return [-2]
    v = side.pairs.pop(tag)
    forget_of_vlan(switch.vlans[v], [number])
    return [0]
