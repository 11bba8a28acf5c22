"""The interface: the answers to a flat list of calls on a new store."""

from stepsweep.building_calls import abort_building, begin_building, finish_building
from stepsweep.collection_calls import cancel_collection, start_collection, work_units
from stepsweep.reader import Reader
from stepsweep.room_calls import set_room
from stepsweep.root_calls import clear_root, set_root
from stepsweep.session_calls import close_session, hold_place, open_session
from stepsweep.state import State
from stepsweep.telling_calls import tell_counts, tell_live, tell_valid, tell_why


def answer_open(state, reader):
    return [open_session(state, reader.number())]


def answer_close(state, reader):
    return [close_session(state, reader.number())]


def answer_hold(state, reader):
    k = reader.number()
    p = reader.number()
    return [hold_place(state, k, p)]


def answer_begin(state, reader):
    k = reader.number()
    outs = reader.row()
    ins = reader.row()
    return [begin_building(state, k, outs, ins)]


def answer_finish(state, reader):
    k = reader.number()
    sizes = reader.row()
    refs = reader.row()
    return [finish_building(state, k, sizes, refs)]


def answer_abort(state, reader):
    return [abort_building(state, reader.number())]


def answer_root(state, reader):
    r = reader.number()
    p = reader.number()
    return [set_root(state, r, p)]


def answer_unroot(state, reader):
    return [clear_root(state, reader.number())]


def answer_collect(state, reader):
    return [start_collection(state, reader.number())]


def answer_work(state, reader):
    return work_units(state, reader.number())


def answer_cancel(state, reader):
    return [cancel_collection(state)]


def answer_room(state, reader):
    return [set_room(state, reader.number())]


def answer_valid(state, reader):
    return tell_valid(state)


def answer_live(state, reader):
    return tell_live(state)


def answer_why(state, reader):
    return tell_why(state, reader.number())


def answer_counts(state, reader):
    return tell_counts(state)


CALLS = {
    0: answer_open,
    1: answer_close,
    2: answer_hold,
    3: answer_begin,
    4: answer_finish,
    5: answer_abort,
    6: answer_root,
    7: answer_unroot,
    8: answer_collect,
    9: answer_work,
    10: answer_cancel,
    11: answer_room,
    12: answer_valid,
    13: answer_live,
    14: answer_why,
    15: answer_counts,
}


def answer_one(state, reader):
    answer_call = CALLS[reader.number()]
    return answer_call(state, reader)


def answers(calls):
    state = State()
    reader = Reader(calls)
    told = []
    while reader.has_more():
        answer = answer_one(state, reader)
        told.append(len(answer))
        told.extend(answer)
    return told
