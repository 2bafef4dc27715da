"""A world is brought to where each dealing is sure or off, and nothing is pledged."""

from stampedwait.deals import ASKED, OPEN
from stampedwait.errors import Waits
from stampedwait.ledgers import OFF, SURE

MOST_ROUNDS = 20


def with_word(world, words):
    """The dealings that have one of some words."""
    return [dealing for dealing in range(len(world)) if world.word(dealing) in words]


def is_settled(world):
    if len(with_word(world, (SURE, OFF))) < len(world):
        return False
    return not any([world.house_numbered(house).noted.pending() for house in range(world.houses())])


def all_copies(world):
    """Each copy of each house, as (house, copy)."""
    return [(house, copy) for house in range(world.houses())
            for copy in range(len(world.house_numbered(house).crew))]


def set_clocks(world):
    for house, copy in all_copies(world):
        world.set_clock(house, copy)


def last_time(world):
    """The greatest time of all promises and stamps."""
    some = [world.house_numbered(house) for house in range(world.houses())]
    return max([house.crew.last_promise() for house in some] + [house.noted.last_stamp()[0] for house in some])


def wait_for_all(world):
    set_clocks(world)
    many = last_time(world) + 1 - world.true_now()
    if many > 0:
        world.go_on(many)
    set_clocks(world)


def choose_anew(world):
    for house in range(world.houses()):
        world.choose(house, 0)
    for house, copy in all_copies(world):
        world.catch_up(house, copy)


def deliver_some(world):
    """Delivers and loses what lies: how many could be delivered."""
    many = 0
    for number in list(world.letters()):
        try:
            world.deliver(number)
        except Waits:
            continue
        world.lose(number)
        many += 1
    return many


def deliver_all(world):
    # answers lie, too, and what had to wait may be waited for no more
    while deliver_some(world) > 0:
        pass


def finish_all(world):
    for dealing in with_word(world, (ASKED,)):
        world.finish(dealing)


def question_all(world):
    # a home that ended a dealing without knowing its other houses told them nothing
    for house in range(world.houses()):
        world.question(house)


def tell_all(world):
    for dealing in with_word(world, (ASKED, SURE)):
        try:
            world.tell(dealing)
        except Waits:
            continue


def settle_once(world):
    for house, copy in all_copies(world):
        world.back(house, copy)
    for dealing in with_word(world, (OPEN,)):
        world.give_up(dealing)
    wait_for_all(world)
    choose_anew(world)
    deliver_all(world)
    finish_all(world)
    question_all(world)
    deliver_all(world)
    tell_all(world)
    deliver_all(world)


def settle(world):
    rounds = 0
    while rounds < MOST_ROUNDS and not is_settled(world):
        settle_once(world)
        rounds += 1
    return rounds
