"""The calls 23 and 24: the mirror, and what is watched."""

from learnswitch.forget import forget_of_all
from learnswitch.held import WATCH_BOTH, WATCH_NOTHING, is_side, is_side_or_none


def set_mirror(switch, number):
    if not is_side_or_none(switch, number):
        return [-1]
    switch.mirror = number
    forget_of_all(switch, [number])
    return [0]


def set_watch(switch, number, d):
    if not is_side(switch, number):
        return [-1]
    if not WATCH_NOTHING <= d <= WATCH_BOTH:
        return [-2]
    side = switch.sides[number]
    side.watched = d
    return [0]
