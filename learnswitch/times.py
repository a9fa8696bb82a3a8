"""The calls 16, 17 and 25: how long rows stay, and the clock."""

from learnswitch.held import HIGHEST_TIME, LEARNED

# 2^62: the clock goes so far and no further.
CLOCK_END = 4611686018427387904


def set_age(switch, v, a):
    if v not in switch.vlans:
        return [-1]
    if not 1 <= a <= HIGHEST_TIME:
        return [-2]
    vlan = switch.vlans[v]
    vlan.age = a
    return [0]


def shorten_rows(switch, v, d):
    if v not in switch.vlans:
        return [-1]
    if not 0 <= d <= HIGHEST_TIME:
        return [-2]
    vlan = switch.vlans[v]
    for row in list(vlan.rows.values()):
        if row.kind == LEARNED:
            row.until = min(row.until, switch.now + d)
    take_what_is_over(vlan, switch.now)
    return [0]


def tick(switch, n):
    if not 1 <= n <= CLOCK_END:
        return [-1]
    if switch.now + n > CLOCK_END:
        return [-2]
    switch.now += n
    for vlan in list(switch.vlans.values()):
        take_what_is_over(vlan, switch.now)
        vlan.spread = [0] * len(switch.sides)
    return [0]


def take_what_is_over(vlan, now):
    """Take away each learned row that stays no longer than until now."""
    for hw in list(vlan.rows):
        row = vlan.rows[hw]
        if row.kind == LEARNED and row.until <= now:
            vlan.rows.pop(hw)
