"""Works of known lengths that are taken up in this row or in that one: when they begin, wait and end."""

from benchends.errors import NoRow, TooMany
from benchends.orders import taken_up
from benchends.worlds import check_lengths, how_many_works, is_whole_within

MOST_WORKS_OF_ALL_ROWS = 6


def is_row(world, thing):
    works = how_many_works(world)
    # The kind is asked first: not everything can be put in order beside numbers.
    if not isinstance(thing, tuple) or not all([is_whole_within(work, 0, works - 1) for work in thing]):
        return False
    return sorted(thing) == list(range(works))


def check_row(world, lengths, row):
    check_lengths(world, lengths)
    if not is_row(world, row):
        raise NoRow("a row is a tuple of all works")


# These need not lie within the bounds by their places: each work brings its own bounds along.
def lengths_by_places(lengths, row):
    return tuple([lengths[work] for work in row])


def last_end(world, lengths):
    return max([part[2] for part in taken_up(world, lengths)])


def begins(world, lengths):
    return [part[1] for part in taken_up(world, lengths)]


def finish(world, lengths):
    check_lengths(world, lengths)
    return last_end(world, lengths)


def begin_moments(world, lengths):
    check_lengths(world, lengths)
    return begins(world, lengths)


def short_ones_first(world, lengths):
    check_lengths(world, lengths)
    rising = sorted([(length, work) for work, length in enumerate(lengths)])
    return tuple([work for length, work in rising])


def all_rows(works):
    found = [()]
    for place in range(works):
        longer = []
        for row in found:
            longer.extend([row + (work,) for work in range(works) if work not in row])
        found = longer
    return found


def best_row(world, lengths):
    check_lengths(world, lengths)
    if how_many_works(world) > MOST_WORKS_OF_ALL_ROWS:
        raise TooMany("the best row is told of up to 6 works")
    ends = [(last_end(world, lengths_by_places(lengths, row)), row) for row in all_rows(how_many_works(world))]
    return min(ends)[1]


def finish_in(world, lengths, row):
    check_row(world, lengths, row)
    return last_end(world, lengths_by_places(lengths, row))


def waits_in(world, lengths, row):
    check_row(world, lengths, row)
    return sum(begins(world, lengths_by_places(lengths, row)))
