"""Whether an order can have been: with moments, or with a ring of rules that bars it."""

from benchends.errors import Never
from benchends.rules import first_event, holds, is_walk, last_event, rules, shortest_walks, walk_by_firsts, walk_most
from benchends.worlds import MOST_NUMBER, begin_event, is_whole_within


def earliest_moments(told, events):
    # A walk from an event to event 0 tells how long behind event 0 the event comes at least. Each event has such a
    # walk, by the ends ahead of it.
    return [-most for most in shortest_walks(told, events, 0)[0]]


def could(world, order):
    told = rules(world, order)
    earliest = earliest_moments(told, len(order) + 1)
    return all([holds(rule, earliest) for rule in told])


def check_could(world, order):
    if not could(world, order):
        raise Never("the order can not have been")


def moments(world, order):
    check_could(world, order)
    return earliest_moments(rules(world, order), len(order) + 1)[1:]


def are_moments(world, order, thing):
    told = rules(world, order)
    if not isinstance(thing, list) or len(thing) != len(order):
        return False
    if not all([is_whole_within(moment, 0, MOST_NUMBER) for moment in thing]):
        return False
    event_moments = [0] + thing
    return all([holds(rule, event_moments) for rule in told])


def ring_behind(told, firsts, start):
    # As many steps as there are events lead onto the ring, wherever it is.
    event = start
    for step in range(len(firsts)):
        event = told[firsts[event]][0]
    place = firsts[event]
    return [place] + walk_by_firsts(told, firsts, told[place][0], event)


def ring(world, order):
    told = rules(world, order)
    events = len(order) + 1
    earliest = earliest_moments(told, events)
    broken = [rule for rule in told if not holds(rule, earliest)]
    if len(broken) == 0:
        return None
    # The walk of a broken rule's one came to less in the last round still, and only a ring lets it.
    return ring_behind(told, shortest_walks(told, events, 0)[1], broken[0][0])


def is_ring(world, order, thing):
    told = rules(world, order)
    if not is_walk(told, thing):
        return False
    return first_event(told, thing) == last_event(told, thing) and walk_most(told, thing) < 0


def lengths(world, order):
    event_moments = [0] + moments(world, order)
    return sorted([
        (work, event_moments[end] - event_moments[begin_event(world, work)])
        for end, work in enumerate(order, start=1)
    ])
