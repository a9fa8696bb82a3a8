"""The calls 27 to 31: they tell what is held, and change nothing."""

from learnswitch.hardware import is_hardware
from learnswitch.held import LEARNED, is_port, is_side, ports_of, size_of

# Stands where a row's kind would, for a group row.
GROUP_KIND = 3


def look_up(switch, v, hw):
    if v not in switch.vlans:
        return [-1]
    if not is_hardware(hw):
        return [-2]
    vlan = switch.vlans[v]
    if hw in vlan.groups:
        return [0, GROUP_KIND] + tell_group(vlan.groups[hw])
    if hw not in vlan.rows:
        return [-3]
    row = vlan.rows[hw]
    left = row.until - switch.now if row.kind == LEARNED else 0
    return [0, row.kind, row.side, left]


def tell_group(group):
    """How many sides the group row has, then they, rising."""
    return [len(group)] + sorted(group)


def tell_rows(switch, v):
    if v not in switch.vlans:
        return [-1]
    vlan = switch.vlans[v]
    told = [0, len(vlan.rows)]
    for hw in sorted(vlan.rows):
        row = vlan.rows[hw]
        told.extend([hw, row.kind, row.side])
    told.append(len(vlan.groups))
    for g in sorted(vlan.groups):
        told.append(g)
        told.extend(tell_group(vlan.groups[g]))
    return told


def tell_counts(switch, number):
    if not is_port(switch, number):
        return [-1]
    port = switch.ports[number]
    return [0, port.taken, port.passed, port.given] + port.dropped


def tell_vlan(switch, v):
    if v not in switch.vlans:
        return [-1]
    vlan = switch.vlans[v]
    return [0, size_of(vlan), vlan.moves, vlan.missed, vlan.breaches, vlan.age]


def tell_side(switch, number):
    if not is_side(switch, number):
        return [-1]
    side = switch.sides[number]
    told = [0, side.native, side.apart, side.rank, side.most, side.lock_shuts, side.storm, side.watched]
    told.append(len(side.pairs))
    for tag in sorted(side.pairs):
        told.extend([tag, side.pairs[tag]])
    ports = ports_of(switch, number)
    return told + [len(ports)] + ports
