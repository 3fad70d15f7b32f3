"""All lengths gone through: which orders are played, and for how many of them."""

from benchends.errors import TooMany
from benchends.orders import played
from benchends.worlds import check_order, check_world, greatest_length, how_many_works, least_length

MOST_LENGTHS_GONE_THROUGH = 600


def how_many_lengths(world):
    check_world(world)
    many = 1
    for work in range(how_many_works(world)):
        many = many * (greatest_length(world, work) - least_length(world, work) + 1)
    return many


def check_many(world):
    if how_many_lengths(world) > MOST_LENGTHS_GONE_THROUGH:
        raise TooMany("up to 600 lengths are gone through")


def all_lengths(world):
    found = [()]
    for work in range(how_many_works(world)):
        lengths_of_work = list(range(least_length(world, work), greatest_length(world, work) + 1))
        longer = []
        for lengths in found:
            longer.extend([lengths + (length,) for length in lengths_of_work])
        found = longer
    return found


def greatest_divisor(one, other):
    while other != 0:
        rest = one % other
        one = other
        other = rest
    return one


def share(part, whole):
    divisor = greatest_divisor(part, whole)
    return (part // divisor, whole // divisor)


def chances(world):
    check_many(world)
    counts = {}
    for lengths in all_lengths(world):
        order = played(world, lengths)[0]
        counts[order] = counts.get(order, 0) + 1
    return [(order, share(counts[order], how_many_lengths(world))) for order in sorted(counts)]


def lengths_for(world, order):
    check_order(world, order)
    check_many(world)
    return [lengths for lengths in all_lengths(world) if played(world, lengths)[0][:len(order)] == order]


def works_played_next(world, order):
    found = []
    for lengths in lengths_for(world, order):
        # Behind an order of all works nothing is left to be played next.
        found.extend(played(world, lengths)[0][len(order):len(order) + 1])
    return found


def likeliest_next(world, order):
    found = works_played_next(world, order)
    counts = [found.count(work) for work in range(how_many_works(world))]
    most = max(counts)
    if most == 0:
        return ([], 0)
    return ([work for work, many in enumerate(counts) if many == most], most)
