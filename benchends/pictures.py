"""Pictures of benches at work, drawn and read back."""

from benchends.errors import NoText
from benchends.orders import taken_up
from benchends.worlds import check_lengths, how_many_benches, is_world

LETTERS = "abcdefghij"


def drawn(world, lengths):
    lines = [""] * how_many_benches(world)
    # A bench takes up its next work at the very moment at which it is free, so dots come behind its last work alone.
    for work, part in enumerate(taken_up(world, lengths)):
        lines[part[0]] = lines[part[0]] + LETTERS[work] * lengths[work]
    last = max([len(line) for line in lines])
    return "\n".join([line.ljust(last, ".") for line in lines])


def picture(world, lengths):
    check_lengths(world, lengths)
    return drawn(world, lengths)


# The one world whose picture the text can be, if it is one: the picture of lengths has as many letters of each work.
def world_that_fits(text):
    counts = [text.count(letter) for letter in LETTERS]
    return (text.count("\n") + 1, tuple([(many, many) for many in counts if many > 0]))


def read_picture(text):
    if not isinstance(text, str):
        raise NoText("only a text is read")
    world = world_that_fits(text)
    lengths = tuple([least for least, greatest in world[1]])
    if not is_world(world) or drawn(world, lengths) != text:
        raise NoText("the text is the picture of no lengths by 1 to 4 benches")
    return (how_many_benches(world), lengths)
