"""The deeds of a world: a word for each, and what it does."""

from stampedwait.deedwords import is_deed
from stampedwait.errors import NoCopy, NoDeed
from stampedwait.moving import form_ahead, move
from stampedwait.settling import settle
from stampedwait.shelves import refuse_no_time
from stampedwait.snapshots import read_at, read_now, refuse_no_keys


def do_tick(world, many):
    return world.tick(many)


def do_set(world, house, copy, before, behind):
    return world.set_clock(house, copy, before=before, behind=behind)


def do_pace(world, house, copy, pace):
    return world.pace(house, copy, pace)


def do_stop(world, house, copy):
    return world.stop(house, copy)


def do_back(world, house, copy):
    return world.back(house, copy)


def do_choose(world, house, copy):
    return world.choose(house, copy)


def do_renew(world, house):
    return world.renew(house)


def do_catch(world, house, copy):
    return world.catch_up(house, copy)


def do_mark(world, house):
    return world.mark(house)


def do_gone(world, house, time):
    return world.let_go(house, time)


def do_begin(world):
    return world.begin()


def do_again(world, dealing):
    return world.again(dealing)


def do_take(world, dealing, key, way):
    return world.take(dealing, key, way)


def do_read(world, dealing, key):
    return world.read(dealing, key)


def do_write(world, dealing, key, worth):
    return world.write(dealing, key, worth)


def do_finish(world, dealing):
    return world.finish(dealing)


def do_tell(world, dealing):
    return world.tell(dealing)


def do_stay(world, dealing):
    return world.give_up(dealing)


def do_deliver(world, number):
    return world.deliver(number)


def do_lose(world, number):
    return world.lose(number)


def do_question(world, house):
    return world.question(house)


def do_at(world, time, keys):
    return read_at(world, time, keys)


def do_copy(world, copy, time, keys):
    refuse_no_time(time)
    refuse_no_keys(keys)
    # left out it would be the heads that read; in a deed it is no copy
    if copy is None and keys:
        raise NoCopy(copy)
    return read_at(world, time, keys, copy=copy)


def do_now(world, house, keys):
    return read_now(world, house, keys)


def do_move(world, key, house):
    return move(world, key, house)


def do_form(world, time, fields):
    return form_ahead(world, time, fields)


def do_settle(world):
    return settle(world)


ACTIONS = {
    "tick": do_tick,
    "set": do_set,
    "pace": do_pace,
    "stop": do_stop,
    "back": do_back,
    "choose": do_choose,
    "renew": do_renew,
    "catch": do_catch,
    "mark": do_mark,
    "gone": do_gone,
    "begin": do_begin,
    "again": do_again,
    "take": do_take,
    "read": do_read,
    "write": do_write,
    "finish": do_finish,
    "tell": do_tell,
    "stay": do_stay,
    "deliver": do_deliver,
    "lose": do_lose,
    "question": do_question,
    "at": do_at,
    "copy": do_copy,
    "now": do_now,
    "move": do_move,
    "form": do_form,
    "settle": do_settle,
}


def do_deed(world, deed):
    if not is_deed(deed):
        raise NoDeed("no deed")
    action = ACTIONS[deed[0]]
    things = deed[1:]
    return action(world, *things)
