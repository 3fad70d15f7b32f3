"""The rules that hold between the events of an order, and the walks that go by them.

A walk is a list of places of rules, each of which begins, with its other, at the event that is the one of the rule
ahead. The last event of a walk comes at most so long behind its first one as the mosts of its rules come to.
"""

from benchends.worlds import begin_event, check_order, greatest_length, is_whole_within, least_length, running


def rules_of_ended(world, work, end):
    begin = begin_event(world, work)
    return [
        (end, begin, greatest_length(world, work)),
        (begin, end, -least_length(world, work)),
        (end - 1, end, 0),
    ]


def rule_of_running(world, work, last):
    return (last, begin_event(world, work), greatest_length(world, work))


def rules(world, order):
    check_order(world, order)
    told = []
    for ahead, work in enumerate(order):
        told.extend(rules_of_ended(world, work, ahead + 1))
    for work in running(world, order):
        told.append(rule_of_running(world, work, len(order)))
    return told


def holds(rule, event_moments):
    return event_moments[rule[0]] - event_moments[rule[1]] <= rule[2]


def is_walk(told, thing):
    if not isinstance(thing, list) or len(thing) == 0:
        return False
    if not all([is_whole_within(place, 0, len(told) - 1) for place in thing]):
        return False
    steps = [told[place] for place in thing]
    return all([ahead[0] == behind[1] for ahead, behind in zip(steps, steps[1:])])


def first_event(told, walk):
    return told[walk[0]][1]


def last_event(told, walk):
    return told[walk[-1]][0]


def walk_most(told, walk):
    return sum([told[place][2] for place in walk])


def shorten_walks(told, mosts, firsts):
    for place, rule in enumerate(told):
        onward = mosts[rule[0]]
        if onward is not None and (mosts[rule[1]] is None or onward + rule[2] < mosts[rule[1]]):
            mosts[rule[1]] = onward + rule[2]
            firsts[rule[1]] = place


# Two lists, by events: what the walk from there to the goal comes to that comes to least, and its first place. Where
# there is a ring no walk comes to least, so some rule would still make one come to less.
def shortest_walks(told, events, goal):
    mosts = [None] * events
    firsts = [None] * events
    mosts[goal] = 0
    # A walk that goes through no event twice has fewer rules than there are events: where there is no ring all is
    # settled ahead of the last round, so that what changes in it has a ring behind it.
    for event in range(events):
        shorten_walks(told, mosts, firsts)
    return (mosts, firsts)


def walk_by_firsts(told, firsts, start, goal):
    found = []
    event = start
    while event != goal:
        found.append(firsts[event])
        event = told[firsts[event]][0]
    return found
