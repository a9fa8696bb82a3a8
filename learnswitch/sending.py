"""Where a frame is for, where it goes out, and the copies of it."""

from learnswitch.held import GATE_OPEN, NO_SIDE, WATCH_BOTH, WATCH_IN, WATCH_OUT
from learnswitch.held import has_live_port, live_ports, side_is_in

NO_TAG = -1
NO_PORT = -1


def is_spread(vlan, to):
    """Whether no row says where it is, so that it is for all sides."""
    return to not in vlan.groups and to not in vlan.rows


def sides_for(switch, vlan, to):
    """The sides that it's for, rising; none where a row says nowhere."""
    if to in vlan.groups:
        return sorted(vlan.groups[to])
    if to not in vlan.rows:
        return list(range(len(switch.sides)))
    side = vlan.rows[to].side
    return [] if side == NO_SIDE else [side]


def goes_out_at(switch, frame, number):
    vlan = switch.vlans[frame.v]
    side = switch.sides[number]
    if number == frame.side or number == switch.mirror:
        return False
    if not side_is_in(side, frame.v):
        return False
    if vlan.gates[number] != GATE_OPEN or vlan.shut[number] == 1:
        return False
    if side.apart == 1 and switch.sides[frame.side].apart == 1:
        return False
    return has_live_port(switch, number)


def port_by_place(switch, frame, number):
    """The one of the side's live ports that the frame takes."""
    live = live_ports(switch, number)
    return live[(frame.to + frame.source) % len(live)]


def send_out(switch, frame):
    vlan = switch.vlans[frame.v]
    sides = [number for number in sides_for(switch, vlan, frame.to) if goes_out_at(switch, frame, number)]
    ports = sorted([port_by_place(switch, frame, number) for number in sides])
    told = [0, len(ports)]
    for number in ports:
        port = switch.ports[number]
        port.given += 1
        told.append(number)
        told.extend(tag_and_rank(switch, frame, port.side))
    return told + copies_of(switch, frame, sides)


def tag_and_rank(switch, frame, number):
    """What the frame bears where it goes out at the side."""
    side = switch.sides[number]
    if side.native == frame.v:
        return [NO_TAG, 0]
    tags = [tag for tag, v in side.pairs.items() if v == frame.v]
    rank = switch.sides[frame.side].rank if frame.tag == NO_TAG else frame.rank
    return [tags[0], rank]


def copies_of(switch, frame, sides):
    """How many copies of what goes out at the sides there are, and by which port."""
    # No mirror is asked first: ports that are no side's are not its ports.
    if switch.mirror == NO_SIDE or not has_live_port(switch, switch.mirror):
        return [0, NO_PORT]
    watched = [number for number in sides if switch.sides[number].watched in (WATCH_OUT, WATCH_BOTH)]
    copies = len(watched)
    if switch.sides[frame.side].watched in (WATCH_IN, WATCH_BOTH):
        copies += 1
    if copies == 0:
        return [0, NO_PORT]
    return [copies, port_by_place(switch, frame, switch.mirror)]
