"""The rules that hold between the events of an order."""

from benchends.worlds import begin_event, check_order, greatest_length, least_length, running


def rules_of_ended(world, work, end):
    begin = begin_event(world, work)
    return [
        (end, begin, greatest_length(world, work)),
        (begin, end, -least_length(world, work)),
        (end - 1, end, 0),
    ]


def rule_of_running(world, work, last):
    return (last, begin_event(world, work), greatest_length(world, work))


def rules(world, order):
    check_order(world, order)
    told = []
    for ahead, work in enumerate(order):
        told.extend(rules_of_ended(world, work, ahead + 1))
    for work in running(world, order):
        told.append(rule_of_running(world, work, len(order)))
    return told
