"""The calls 6 to 8: which port is which side's, and which is up."""

from learnswitch.forget import settle
from learnswitch.held import NO_SIDE, is_port, is_side, ports_of

MOST_PORTS_OF_SIDE = 8


def plug_port(switch, number, side):
    if not is_port(switch, number):
        return [-1]
    if not is_side(switch, side):
        return [-2]
    port = switch.ports[number]
    if port.side == side:
        return [0]
    if len(ports_of(switch, side)) >= MOST_PORTS_OF_SIDE:
        return [-3]
    port.side = side
    settle(switch)
    return [0]


def unplug_port(switch, number):
    if not is_port(switch, number):
        return [-1]
    port = switch.ports[number]
    if port.side == NO_SIDE:
        return [-2]
    port.side = NO_SIDE
    settle(switch)
    return [0]


def set_link(switch, number, x):
    if not is_port(switch, number):
        return [-1]
    if not 0 <= x <= 1:
        return [-2]
    port = switch.ports[number]
    port.up = x
    settle(switch)
    return [0]
