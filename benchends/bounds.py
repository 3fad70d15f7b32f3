"""Which lengths a work that ended may have had, with chains of rules and moments that show it."""

from benchends.could import check_could, earliest_moments
from benchends.errors import NoSide, NoWork
from benchends.rules import first_event, is_walk, last_event, rules, shortest_walks, walk_by_firsts, walk_most
from benchends.worlds import MOST_NUMBER, begin_event, check_order, how_many_works, is_whole_within


def check_work(world, order, work):
    check_order(world, order)
    # The kind is asked first: True and False are equal to works, but are none.
    if not is_whole_within(work, 0, how_many_works(world) - 1) or work not in order:
        raise NoWork("the work is none of the order")
    check_could(world, order)


def check_side(world, order, work, side):
    check_work(world, order, work)
    if not isinstance(side, str) or side not in ("least", "most"):
        raise NoSide('a side is "least" or "most"')


def chain_start(world, order, work, side):
    if side == "most":
        return begin_event(world, work)
    return order.index(work) + 1


def chain_goal(world, order, work, side):
    if side == "most":
        return order.index(work) + 1
    return begin_event(world, work)


def chain_most(side, number):
    if side == "most":
        return number
    return -number


def shortest_chain(world, order, work, side):
    told = rules(world, order)
    start = chain_start(world, order, work, side)
    goal = chain_goal(world, order, work, side)
    firsts = shortest_walks(told, len(order) + 1, goal)[1]
    return walk_by_firsts(told, firsts, start, goal)


def length(world, order, work):
    check_work(world, order, work)
    told = rules(world, order)
    least = -walk_most(told, shortest_chain(world, order, work, "least"))
    most = walk_most(told, shortest_chain(world, order, work, "most"))
    return (least, most)


def chain(world, order, work, side):
    check_side(world, order, work, side)
    return shortest_chain(world, order, work, side)


def is_chain(world, order, work, side, number, thing):
    check_side(world, order, work, side)
    told = rules(world, order)
    if not is_whole_within(number, 0, MOST_NUMBER) or not is_walk(told, thing):
        return False
    if first_event(told, thing) != chain_start(world, order, work, side):
        return False
    if last_event(told, thing) != chain_goal(world, order, work, side):
        return False
    return walk_most(told, thing) <= chain_most(side, number)


def shown(world, order, work, side):
    check_side(world, order, work, side)
    told = rules(world, order)
    most = walk_most(told, shortest_chain(world, order, work, side))
    # The chain bars the goal from coming later than so long behind the start; this rule bars it from coming earlier.
    told.append((chain_start(world, order, work, side), chain_goal(world, order, work, side), -most))
    return earliest_moments(told, len(order) + 1)[1:]
