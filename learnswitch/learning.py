"""What a VLAN learns from a frame, by its row for where the frame is from."""

from learnswitch.held import FIXED, LEARNED, SECURE, Row, is_full, is_locked
from learnswitch.reasons import BREACH, FIXED_ELSEWHERE, GOES_ON, MOVES_TOO_SOON, SECURE_ELSEWHERE


def learn(switch, frame):
    """Answers the reason for which the frame is dropped, or that it goes on."""
    vlan = switch.vlans[frame.v]
    if frame.source not in vlan.rows:
        return learn_new(switch, vlan, frame)
    row = vlan.rows[frame.source]
    at_home = row.side == frame.side
    if row.kind == FIXED:
        return GOES_ON if at_home else FIXED_ELSEWHERE
    if row.kind == SECURE:
        return GOES_ON if at_home else SECURE_ELSEWHERE
    if at_home:
        row.until = switch.now + vlan.age
        return GOES_ON
    if switch.now < row.moves_at:
        return MOVES_TOO_SOON
    return move_row(switch, vlan, frame)


def learn_new(switch, vlan, frame):
    full = is_full(switch, vlan)
    if is_locked(switch.sides[frame.side]):
        if full or not has_room(switch, vlan, frame.side):
            return breach(switch, vlan, frame.side)
        vlan.rows[frame.source] = Row(SECURE, frame.side, 0, 0)
    elif full:
        vlan.missed += 1
    else:
        vlan.rows[frame.source] = Row(LEARNED, frame.side, switch.now + vlan.age, switch.now)
    return GOES_ON


def move_row(switch, vlan, frame):
    if is_locked(switch.sides[frame.side]):
        if not has_room(switch, vlan, frame.side):
            return breach(switch, vlan, frame.side)
        row = Row(SECURE, frame.side, 0, 0)
    else:
        row = Row(LEARNED, frame.side, switch.now + vlan.age, switch.now + switch.hold)
    vlan.rows[frame.source] = row
    vlan.moves += 1
    return GOES_ON


def has_room(switch, vlan, number):
    """Whether the VLAN has fewer secure rows at the locked side than its most."""
    secure = [row for row in vlan.rows.values() if row.kind == SECURE and row.side == number]
    return len(secure) < switch.sides[number].most


def breach(switch, vlan, number):
    vlan.breaches += 1
    if switch.sides[number].lock_shuts == 1:
        vlan.shut[number] = 1
    return BREACH
