"""How many benches works of known lengths need, and what each bench does."""

from benchends.errors import NoNumber
from benchends.orders import benches, taken_up
from benchends.rowing import finish
from benchends.worlds import MOST_BENCHES, MOST_NUMBER, check_lengths, check_world, how_many_benches, is_whole_within


def check_moment(world, lengths, moment):
    check_lengths(world, lengths)
    if not is_whole_within(moment, 0, MOST_NUMBER):
        raise NoNumber("a moment is a whole number from 0 to 9999")


def with_benches(world, many):
    check_world(world)
    if not is_whole_within(many, 1, MOST_BENCHES):
        raise NoNumber("a world has 1 to 4 benches")
    return (many, world[1])


def fewest_benches(world, lengths, by):
    check_moment(world, lengths, by)
    for many in range(1, MOST_BENCHES + 1):
        if finish(with_benches(world, many), lengths) <= by:
            return many
    return None


def busy(world, lengths):
    return [sum([lengths[work] for work in works]) for works in benches(world, lengths)]


def idle(world, lengths):
    last = finish(world, lengths)
    return sum([last - part for part in busy(world, lengths)])


def at_work(world, lengths, moment):
    check_moment(world, lengths, moment)
    told = [None] * how_many_benches(world)
    for work, part in enumerate(taken_up(world, lengths)):
        if part[1] <= moment < part[2]:
            told[part[0]] = work
    return told
