"""The call 26: a frame comes in at a port."""

from learnswitch.hardware import is_group, is_hardware, is_reserved
from learnswitch.held import GATE_CLOSED, GATE_LEARNS, HIGHEST_RANK, NO_BOUND, NO_SIDE, NO_VLAN, is_port
from learnswitch.learning import learn
from learnswitch.reasons import CAME_BY_MIRROR, FIRST_REASON, FOR_NOWHERE, GATE_IS_CLOSED, GOES_ON, OF_NO_VLAN
from learnswitch.reasons import ONLY_LEARNED, PORT_IS_DEAD, STORM, TO_RESERVED, WAY_IS_SHUT, WRONG_SOURCE
from learnswitch.sending import NO_TAG, is_spread, send_out, sides_for

HIGHEST_TAG_OF_FRAME = 4095
EMPTY_TAG = 0


class Frame:
    """A frame that was taken: what it bears, the side it came by, its VLAN."""

    def __init__(self, to, source, tag, rank):
        self.to = to
        self.source = source
        self.tag = tag
        self.rank = rank
        self.side = NO_SIDE
        self.v = NO_VLAN


def take_frame(switch, number, to, source, tag, rank):
    if not is_port(switch, number):
        return [-1]
    if not may_be_borne(to, source, tag, rank):
        return [-2]
    port = switch.ports[number]
    port.taken += 1
    frame = Frame(to, source, tag, rank)
    # A port that is down brings a frame to no side, whatever side's it is.
    if port.up == 1 and port.side != NO_SIDE:
        frame.side = port.side
        frame.v = vlan_by_tag(switch.sides[port.side], tag)
    reason = pass_through(switch, frame)
    if reason != GOES_ON:
        port.dropped[reason - FIRST_REASON] += 1
        return [-reason]
    port.passed += 1
    return send_out(switch, frame)


def may_be_borne(to, source, tag, rank):
    if not (is_hardware(to) and is_hardware(source)):
        return False
    if tag == NO_TAG:
        return rank == 0
    return 0 <= tag <= HIGHEST_TAG_OF_FRAME and 0 <= rank <= HIGHEST_RANK


def vlan_by_tag(side, tag):
    if tag == NO_TAG or tag == EMPTY_TAG:
        return side.native
    return side.pairs.get(tag, NO_VLAN)


def pass_through(switch, frame):
    """Answers the first reason to drop the frame, or that it goes on."""
    reason = reason_before_learning(switch, frame)
    if reason == GOES_ON:
        reason = learn(switch, frame)
    if reason == GOES_ON:
        reason = reason_behind_learning(switch, frame)
    return reason


def reason_before_learning(switch, frame):
    if frame.side == NO_SIDE:
        return PORT_IS_DEAD
    if frame.side == switch.mirror:
        return CAME_BY_MIRROR
    if frame.source == 0 or is_group(frame.source):
        return WRONG_SOURCE
    if frame.v == NO_VLAN:
        return OF_NO_VLAN
    if is_reserved(frame.to):
        return TO_RESERVED
    vlan = switch.vlans[frame.v]
    if vlan.gates[frame.side] == GATE_CLOSED:
        return GATE_IS_CLOSED
    if vlan.shut[frame.side] == 1:
        return WAY_IS_SHUT
    return GOES_ON


def reason_behind_learning(switch, frame):
    vlan = switch.vlans[frame.v]
    if vlan.gates[frame.side] == GATE_LEARNS:
        return ONLY_LEARNED
    if is_spread(vlan, frame.to):
        return count_spread(switch, vlan, frame.side)
    if len(sides_for(switch, vlan, frame.to)) == 0:
        return FOR_NOWHERE
    return GOES_ON


def count_spread(switch, vlan, number):
    bound = switch.sides[number].storm
    if bound != NO_BOUND and vlan.spread[number] >= bound:
        return STORM
    vlan.spread[number] += 1
    return GOES_ON
