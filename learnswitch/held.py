"""What a switch holds: its ports, sides, VLANs and rows."""

LEARNED = 0
SECURE = 1
FIXED = 2

NO_VLAN = 0
NO_SIDE = -1
NO_BOUND = -1

GATE_CLOSED = 0
GATE_LEARNS = 1
GATE_OPEN = 2

WATCH_NOTHING = 0
WATCH_IN = 1
WATCH_OUT = 2
WATCH_BOTH = 3

HIGHEST_RANK = 7
HIGHEST_TIME = 1000000

REASONS = 14


class Row:
    """The way to a hardware number; both times count for a learned row alone."""

    def __init__(self, kind, side, until, moves_at):
        self.kind = kind
        self.side = side
        self.until = until
        self.moves_at = moves_at


class Vlan:
    """A VLAN that is there.

    What is told of a side and a VLAN together lies here, a place for each
    side, so that it goes when the VLAN goes.
    """

    def __init__(self, age, sides):
        self.age = age
        self.moves = 0
        self.missed = 0
        self.breaches = 0
        self.rows = {}
        self.groups = {}
        self.gates = [GATE_OPEN] * sides
        self.shut = [0] * sides
        self.spread = [0] * sides


class Side:
    """A way to elsewhere; it isn't locked where its most is 0."""

    def __init__(self):
        self.native = 1
        self.pairs = {}
        self.apart = 0
        self.rank = 0
        self.most = 0
        self.lock_shuts = 0
        self.storm = NO_BOUND
        self.watched = WATCH_NOTHING


class Port:
    """A port. It names its side, so that it can't be part of two."""

    def __init__(self, side):
        self.side = side
        self.up = 1
        self.taken = 0
        self.passed = 0
        self.given = 0
        # The first place is for reason 3: the lower ones are never counted.
        self.dropped = [0] * REASONS


class Switch:
    """A new switch, as begin makes it."""

    def __init__(self, ports, cap, age, hold):
        self.ports = [Port(number) for number in range(ports)]
        self.sides = [Side() for number in range(ports)]
        self.vlans = {1: Vlan(age, ports)}
        self.cap = cap
        self.age = age
        self.hold = hold
        self.mirror = NO_SIDE
        self.now = 0


def is_port(switch, number):
    return 0 <= number < len(switch.ports)


def is_side(switch, number):
    return 0 <= number < len(switch.sides)


def is_side_or_none(switch, number):
    return number == NO_SIDE or is_side(switch, number)


def is_locked(side):
    return side.most != 0


def side_is_in(side, v):
    return side.native == v or v in list(side.pairs.values())


def ports_of(switch, side):
    """The numbers of the side's ports, rising."""
    return [number for number, port in enumerate(switch.ports) if port.side == side]


def live_ports(switch, side):
    """Those of the side's ports that are up, rising."""
    return [number for number in ports_of(switch, side) if switch.ports[number].up == 1]


def has_live_port(switch, side):
    return len(live_ports(switch, side)) > 0


def size_of(vlan):
    return len(vlan.rows) + len(vlan.groups)


def is_full(switch, vlan):
    return size_of(vlan) >= switch.cap
