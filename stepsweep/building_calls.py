"""The calls begin, finish and abort."""

from stepsweep.limits import are_places, are_sizes, is_reference_count, is_session
from stepsweep.refusals import ABSENT, BUSY, DONE, FULL, LOCKED, RANGE, SHAPE, STRAY, THERE


def begin_building(state, k, outs, ins):
    refusal = begin_refusal(state, k, outs, ins)
    if refusal == DONE:
        session = state.sessions[k]
        session.start_building(sorted(set(outs)), sorted(set(ins)))
        state.shade(session.ins)
    return refusal


def begin_refusal(state, k, outs, ins):
    if not is_session(k) or not are_places(outs) or not are_places(ins) or outs == []:
        return RANGE
    if k not in state.sessions:
        return ABSENT
    if state.sessions[k].building:
        return BUSY
    if any([state.is_valid(place) for place in outs]):
        return THERE
    # The session itself isn't building here, so every lock is another one's.
    if any([is_locked(state, place) for place in outs]):
        return LOCKED
    if not all([state.is_valid(place) for place in ins]):
        return ABSENT
    return DONE


def is_locked(state, place):
    return any([place in session.outs for session in state.sessions.values()])


def finish_building(state, k, sizes, refs):
    refusal = finish_refusal(state, k, sizes, refs)
    if refusal == DONE:
        enter_outs(state, state.sessions[k], sizes, refs)
    return refusal


def finish_refusal(state, k, sizes, refs):
    refusal = building_refusal(state, k)
    if refusal != DONE:
        return refusal
    session = state.sessions[k]
    rows = reference_rows(refs, len(session.outs))
    if len(sizes) != len(session.outs) or rows is None:
        return SHAPE
    if not are_sizes(sizes):
        return RANGE
    if has_stray(state, session, rows):
        return STRAY
    if state.things.load() + sum(sizes) > state.room:
        return FULL
    return DONE


def building_refusal(state, k):
    if not is_session(k):
        return RANGE
    if k not in state.sessions or not state.sessions[k].building:
        return ABSENT
    return DONE


# None stands for refs that don't have the asked form.
def reference_rows(refs, how_many):
    rows = []
    position = 0
    while len(rows) < how_many:
        if position >= len(refs) or not is_reference_count(refs[position]):
            return None
        start = position + 1
        position = start + refs[position]
        if position > len(refs):
            return None
        rows.append(refs[start:position])
    if position < len(refs):
        return None
    return rows


def has_stray(state, session, rows):
    allowed = state.things.closure(session.ins)
    for out in session.outs:
        allowed[out] = True
    for row in rows:
        for reference in row:
            if reference not in allowed:
                return True
    return False


def enter_outs(state, session, sizes, refs):
    outs = session.outs
    rows = [sorted(set(row)) for row in reference_rows(refs, len(outs))]
    state.things.enter_all(outs, sizes, rows)
    session.end_building()
    session.hold_all(outs)
    state.shade(outs)


def abort_building(state, k):
    refusal = building_refusal(state, k)
    if refusal == DONE:
        state.sessions[k].end_building()
    return refusal
