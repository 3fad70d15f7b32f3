"""Worlds and orders as texts, written and read back."""

from benchends.errors import NoText
from benchends.worlds import (
    MOST_BENCHES, MOST_LENGTH, MOST_WORKS, check_order, check_world, how_many_benches, how_many_works, is_order,
)


def check_text(text):
    if not isinstance(text, str):
        raise NoText("only a text is read")


# The text is held against the figures of each number that can stand there: so no sign, no needless 0 and no figures
# but 0 to 9 are let by.
def read_number(text, least, most):
    for number in range(least, most + 1):
        if text == str(number):
            return number
    raise NoText("no number that can stand there is written so")


def bounds_text(least, greatest):
    if least == greatest:
        return str(least)
    return f"{least}-{greatest}"


def read_bounds(text):
    parts = text.partition("-")
    least = read_number(parts[0], 1, MOST_LENGTH)
    if parts[1] == "":
        return (least, least)
    return (least, read_number(parts[2], least + 1, MOST_LENGTH))


def world_text(world):
    check_world(world)
    benches = how_many_benches(world)
    works = " ".join([bounds_text(least, greatest) for least, greatest in world[1]])
    return f"{benches}: {works}"


def read_world(text):
    check_text(text)
    parts = text.partition(": ")
    benches = read_number(parts[0], 1, MOST_BENCHES)
    # Where no colon and blank stand, nothing is left behind them: one empty text, which is refused as bounds.
    works = parts[2].split(" ")
    if len(works) > MOST_WORKS:
        raise NoText("a world has up to 10 works")
    return (benches, tuple([read_bounds(part) for part in works]))


def order_text(world, order):
    check_order(world, order)
    return " ".join([str(work) for work in order])


def read_works(world, text):
    # Split, the empty text would have one part still.
    if text == "":
        return ()
    return tuple([read_number(part, 0, how_many_works(world) - 1) for part in text.split(" ")])


def read_order(world, text):
    check_world(world)
    check_text(text)
    order = read_works(world, text)
    if not is_order(world, order):
        raise NoText("the text is that of no order of the world")
    return order
