"""Speeds: the frames in which unlike machines have equal flows."""

from borderflow.errors import InvalidFrame, InvalidNumber, NoSpeed, UnlikeSpeeds
from borderflow.ratios import PRIMES, Ratio
from borderflow.words import is_number

MOST_SIGNS = 64
MOST_TICKS = 12
FARTHEST_MOVE = 12
AT_REST = (1, 0)


def speed(one_flow, one_signs, other_flow, other_signs):
    """The frame in which two flows are equal."""
    check_signs_number(one_signs)
    check_signs_number(other_signs)
    flows = one_flow * ~other_flow
    signs = Ratio(one_signs, other_signs)
    if signs == Ratio(1):
        if flows != Ratio(1):
            raise NoSpeed(least_prime(flows), least_prime(flows))
        return AT_REST
    prime = least_prime(signs)
    # the flows have to be the numbers of signs to the power of this quotient
    quotient_top = flows.power(prime)
    quotient_bottom = signs.power(prime)
    for other in PRIMES:
        if flows.power(other) * quotient_bottom != signs.power(other) * quotient_top:
            raise NoSpeed(prime, other)
    return lowest_frame(quotient_bottom, quotient_top)


def check_signs_number(value):
    """Raises InvalidNumber unless any value is a number of signs."""
    if not is_number(value, 1, MOST_SIGNS):
        raise InvalidNumber(value)


def least_prime(ratio):
    """The least prime of a ratio that is not 1."""
    return min([prime for prime in PRIMES if ratio.power(prime) != 0])


def lowest_frame(s, d):
    """The frame for a quotient d / s: in lowest terms, with s above 0."""
    lowest = Ratio(abs(d), abs(s))
    return lowest.bottom, lowest.top if d * s >= 0 else -lowest.top


def common_frame(parts):
    """The frame in which the flows of all parts are equal."""
    first_flow, first_signs = parts[0]
    speeds = [
        speed(flow, signs, first_flow, first_signs)
        for flow, signs in parts
        if flow != first_flow or signs != first_signs
    ]
    for other in speeds:
        if other != speeds[0]:
            raise UnlikeSpeeds(speeds[0], other)
    return speeds[0] if speeds != [] else AT_REST


def framed(machine, frame):
    """The machine in a frame."""
    check_frame(frame)
    return machine.raised(frame[0]) << frame[1]


def framed_flow(flow, signs, frame):
    """The flow that a flow with so many signs is in a frame."""
    check_signs_number(signs)
    check_frame(frame)
    return flow.raised(frame[0]) * Ratio(signs).raised(-frame[1])


def check_frame(value):
    """Raises InvalidFrame unless any value is a frame."""
    if not is_frame(value):
        raise InvalidFrame()


def is_frame(value):
    """Whether any value is a frame: a number of ticks, and a number of cells."""
    if not isinstance(value, tuple) or len(value) != 2:
        return False
    return is_number(value[0], 1, MOST_TICKS) and is_number(value[1], -FARTHEST_MOVE, FARTHEST_MOVE)
