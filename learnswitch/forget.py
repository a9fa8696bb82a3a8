"""How learned and secure rows are forgotten."""

from learnswitch.held import FIXED, has_live_port


def forget_of_vlan(vlan, sides):
    """Take away what the VLAN has learned or secure at one of the sides; answers how many rows that were."""
    forgotten = 0
    for hw in list(vlan.rows):
        row = vlan.rows[hw]
        if row.kind != FIXED and row.side in sides:
            vlan.rows.pop(hw)
            forgotten += 1
    return forgotten


def forget_of_all(switch, sides):
    """The same for every VLAN."""
    for vlan in switch.vlans.values():
        forget_of_vlan(vlan, sides)


def settle(switch):
    """Forget every row at a side that has no live port."""
    dead = [side for side in range(len(switch.sides)) if not has_live_port(switch, side)]
    forget_of_all(switch, dead)
