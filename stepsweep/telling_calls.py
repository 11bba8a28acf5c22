"""The calls valid, live, why and counts, which change nothing."""

from stepsweep.limits import is_place
from stepsweep.refusals import ABSENT, DONE, RANGE


def tell_valid(state):
    return [DONE] + sorted(state.things.sizes)


def tell_live(state):
    return [DONE] + sorted(state.things.closure(state.anchored_valid()))


def tell_why(state, p):
    if not is_place(p):
        return [RANGE]
    if not state.is_valid(p):
        return [ABSENT]
    reaching = state.things.reaching(p)
    roots = [r for r in sorted(state.roots) if state.roots[r] in reaching]
    sessions = [k for k in sorted(state.sessions) if state.sessions[k].anchors_one_of(reaching)]
    return [DONE, len(roots)] + roots + sessions


def tell_counts(state):
    things = state.things
    collector = state.collector
    marks = [collector.phase, len(collector.black), len(collector.grey)]
    return [DONE, len(things.sizes), things.load()] + marks + [collector.won]
