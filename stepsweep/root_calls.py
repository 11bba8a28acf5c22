"""The calls root and unroot."""

from stepsweep.limits import is_place, is_root
from stepsweep.refusals import ABSENT, DONE, RANGE


def set_root(state, r, p):
    if not is_root(r) or not is_place(p):
        return RANGE
    if not state.is_valid(p):
        return ABSENT
    state.roots[r] = p
    state.shade([p])
    return DONE


def clear_root(state, r):
    if not is_root(r):
        return RANGE
    if r in state.roots:
        state.roots.pop(r)
    return DONE
