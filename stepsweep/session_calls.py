"""The calls open, close and hold."""

from stepsweep.limits import is_place, is_session
from stepsweep.refusals import ABSENT, BUSY, DONE, RANGE
from stepsweep.sessions import Session


def open_session(state, k):
    if not is_session(k):
        return RANGE
    if k in state.sessions:
        return BUSY
    state.sessions[k] = Session()
    return DONE


def close_session(state, k):
    if not is_session(k):
        return RANGE
    if k not in state.sessions:
        return ABSENT
    state.sessions.pop(k)
    return DONE


def hold_place(state, k, p):
    if not is_session(k) or not is_place(p):
        return RANGE
    if k not in state.sessions:
        return ABSENT
    state.sessions[k].hold_all([p])
    if state.is_valid(p):
        state.shade([p])
    return DONE
