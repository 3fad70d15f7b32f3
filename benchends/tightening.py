"""What an order leaves of lengths and moments."""

from benchends.bounds import length
from benchends.could import check_could
from benchends.errors import NoNumber
from benchends.rules import rules, shortest_walks
from benchends.worlds import begin_event, greatest_length, how_many_benches, is_whole_within, running


# By how much later event one comes than event other, at the least and at the most. Both are bounded: by the rules of
# the ends one comes from each event to event 0, and from there to each event.
def gap(told, events, one, other):
    least = -shortest_walks(told, events, other)[0][one]
    most = shortest_walks(told, events, one)[0][other]
    return (least, most)


def tighter(world, order):
    check_could(world, order)
    bounds = list(world[1])
    for work in order:
        bounds[work] = length(world, order, work)
    return (how_many_benches(world), tuple(bounds))


def moment_bounds(world, order):
    check_could(world, order)
    told = rules(world, order)
    events = len(order) + 1
    return [gap(told, events, end, 0) for end in range(1, events)]


def is_settled(world, order):
    return all([earliest == latest for earliest, latest in moment_bounds(world, order)])


def still(world, order):
    check_could(world, order)
    told = rules(world, order)
    last = len(order)
    left = []
    for work in running(world, order):
        least_run = gap(told, last + 1, last, begin_event(world, work))[0]
        left.append((work, greatest_length(world, work) - least_run))
    return left


def gap_bounds(world, order, one, other):
    check_could(world, order)
    if not is_whole_within(one, 0, len(order)) or not is_whole_within(other, 0, len(order)):
        raise NoNumber("an event is 0, or the number of an end")
    return gap(rules(world, order), len(order) + 1, one, other)
