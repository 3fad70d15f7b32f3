"""What the modules share about worlds, orders and events."""

from benchends.errors import NoLengths, NoOrder, NoWorld

MOST_BENCHES = 4
MOST_WORKS = 10
MOST_LENGTH = 99
MOST_NUMBER = 9999


def is_whole_within(thing, least, most):
    # Python counts True and False among the whole numbers; the program does not.
    if not isinstance(thing, int) or isinstance(thing, bool):
        return False
    return least <= thing <= most


def is_pair(thing):
    return isinstance(thing, tuple) and len(thing) == 2


def are_bounds_of_work(thing):
    if not is_pair(thing) or not is_whole_within(thing[0], 1, MOST_LENGTH):
        return False
    return is_whole_within(thing[1], thing[0], MOST_LENGTH)


def are_bounds(thing):
    if not isinstance(thing, tuple) or not 1 <= len(thing) <= MOST_WORKS:
        return False
    return all([are_bounds_of_work(part) for part in thing])


def is_world(thing):
    return is_pair(thing) and is_whole_within(thing[0], 1, MOST_BENCHES) and are_bounds(thing[1])


def check_world(world):
    if not is_world(world):
        raise NoWorld("a world is a tuple of 1 to 4 benches and of the bounds of 1 to 10 works")


def is_order(world, thing):
    if not isinstance(thing, tuple):
        return False
    ended = {}
    for ahead, work in enumerate(thing):
        # The kind is asked first: not everything can be looked up in a dict.
        if not is_whole_within(work, 0, how_many_began(world, ahead) - 1) or work in ended:
            return False
        ended[work] = True
    return True


def check_order(world, order):
    # A wrong world is named first, and without a world nothing is an order.
    check_world(world)
    if not is_order(world, order):
        raise NoOrder("an order is a tuple of unlike works, each of which began ahead of its end")


def are_lengths(world, thing):
    if not isinstance(thing, tuple) or len(thing) != how_many_works(world):
        return False
    return all([is_whole_within(part, bounds[0], bounds[1]) for part, bounds in zip(thing, world[1])])


def check_lengths(world, lengths):
    check_world(world)
    if not are_lengths(world, lengths):
        raise NoLengths("lengths are a tuple of a length within its bounds for each work")


def how_many_benches(world):
    return world[0]


def how_many_works(world):
    return len(world[1])


def least_length(world, work):
    return world[1][work][0]


def greatest_length(world, work):
    return world[1][work][1]


def how_many_began(world, ends):
    return min(how_many_benches(world) + ends, how_many_works(world))


def running(world, order):
    return [work for work in range(how_many_began(world, len(order))) if work not in order]


def begin_event(world, work):
    return max(0, work - how_many_benches(world) + 1)
