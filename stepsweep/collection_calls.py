"""The calls collect, work and cancel."""

from stepsweep.limits import is_number_of_units, is_number_to_be_won
from stepsweep.refusals import BUSY, DONE, RANGE


def start_collection(state, n):
    if not is_number_to_be_won(n):
        return RANGE
    if not state.collector.is_idle():
        return BUSY
    state.collector.begin_marking(n, state.anchored_valid())
    return DONE


def work_units(state, n):
    if not is_number_of_units(n):
        return [RANGE]
    collector = state.collector
    gone = []
    left = n
    # Idle units do nothing, and no unit ends the idleness: those that are left are passed over.
    while left > 0 and not collector.is_idle():
        gone.extend(collector.work_unit(state.things))
        left = left - 1
    return [DONE] + gone


def cancel_collection(state):
    state.collector.become_idle()
    return DONE
