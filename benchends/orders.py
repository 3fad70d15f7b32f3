"""Which work may end next, all orders of all works, and works of known lengths that are played."""

from benchends.could import check_could, could
from benchends.errors import TooMany
from benchends.worlds import check_lengths, check_world, how_many_benches, how_many_works, running

MOST_WORKS_OF_ALL_ORDERS = 6


def may_end(world, order):
    check_could(world, order)
    return [work for work in running(world, order) if could(world, order + (work,))]


def longer_orders(world, shorter):
    longer = []
    for order in shorter:
        longer.extend([order + (work,) for work in may_end(world, order)])
    return longer


def all_orders(world):
    check_world(world)
    if how_many_works(world) > MOST_WORKS_OF_ALL_ORDERS:
        raise TooMany("all orders are told of up to 6 works")
    found = [()]
    # An order can only have been if it could have been without its last end, so none is lost on the way.
    for end in range(how_many_works(world)):
        found = longer_orders(world, found)
    return found


# For each work, by its number, a tuple of the bench that takes it up, and of the moments of its begin and of its end.
def taken_up(world, lengths):
    free_from = [0] * how_many_benches(world)
    told = []
    for length in lengths:
        bench = free_from.index(min(free_from))
        begin = free_from[bench]
        free_from[bench] = begin + length
        told.append((bench, begin, begin + length))
    return told


def played(world, lengths):
    check_lengths(world, lengths)
    ends = sorted([(part[2], work) for work, part in enumerate(taken_up(world, lengths))])
    return (tuple([work for moment, work in ends]), [moment for moment, work in ends])


def benches(world, lengths):
    check_lengths(world, lengths)
    told = [[] for bench in range(how_many_benches(world))]
    for work, part in enumerate(taken_up(world, lengths)):
        told[part[0]].append(work)
    return told
