"""The call room."""

from stepsweep.limits import is_room
from stepsweep.refusals import DONE, FULL, RANGE


def set_room(state, n):
    if not is_room(n):
        return RANGE
    if state.things.load() > n:
        return FULL
    state.room = n
    return DONE
