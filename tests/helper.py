"""What several tests share: things that are refused, worlds to go through, and a count that plays all lengths."""

import itertools

ONE_WORK = ((1, 1),)


class Agreeing:
    """Is equal to everything, and so only shows by its kind that it is no number, text or list."""

    def __eq__(self, other):
        return True

    def __hash__(self):
        return 0

    def __len__(self):
        return 2


class Balking:
    """Answers nothing that it is asked but of what kind it is."""

    def balk(self, other=None):
        raise RuntimeError("this thing was asked for more than its kind")

    __eq__ = __ne__ = __lt__ = __le__ = __gt__ = __ge__ = __hash__ = __len__ = __bool__ = __iter__ = balk
    __getitem__ = __contains__ = __index__ = __int__ = __add__ = __radd__ = __neg__ = balk


ODD_THINGS = [Agreeing(), Balking()]

THINGS_OF_OTHER_KINDS = [
    None, True, False, 0, 1, 2, -1, 10 ** 400, "", "ab", "2: 1", b"ab", [], {}, set(), frozenset([1, 2]),
    range(2), object(), int, len, NotImplemented, Ellipsis,
] + ODD_THINGS

# What is neither a whole number nor a side, be it handed in by itself or within a tuple or a list.
NO_NUMBERS = [True, False, None, "", "0", "1", "9", (), (1,), [], [1], {}, b"1", set(), object(), int] + ODD_THINGS

NO_WORLDS = THINGS_OF_OTHER_KINDS + [
    # too few parts, too many, the wrong one first, and what only looks like a pair
    (), (2,), (ONE_WORK,), (2, ONE_WORK, 0), (2, ONE_WORK, ONE_WORK), (ONE_WORK, 2), (2, 1, 1),
    [2, ONE_WORK], {0: 2, 1: ONE_WORK}, ((2, ONE_WORK),),
    # benches beyond the edges, and what is no whole number
    (0, ONE_WORK), (5, ONE_WORK), (-1, ONE_WORK), (-2, ONE_WORK), (10 ** 400, ONE_WORK),
    (True, ONE_WORK), (False, ONE_WORK), ("2", ONE_WORK), (None, ONE_WORK), ((2,), ONE_WORK), ([2], ONE_WORK),
    # too few works, and too many
    (2, ()), (2, ONE_WORK * 11), (2, ONE_WORK * 1000),
    # what is no tuple of works
    (2, [(1, 1)]), (2, {0: (1, 1)}), (2, "ab"), (2, None), (2, 5), (2, True), (2, (1, 1)), (2, range(1, 3)),
]

WORLD = (2, ((3, 5), (4, 4), (1, 9), (2, 6)))

NO_ORDERS = THINGS_OF_OTHER_KINDS + [
    # what holds works, but in no tuple
    [0], [0, 1], {0: True}, {0}, frozenset([0]), range(1), "0", "01",
    # a work twice
    (0, 0), (1, 1), (0, 1, 0), (0, 1, 1), (0, 2, 0), (0, 1, 2, 2), (0, 1, 2, 3, 3), (0, 1, 2, 3, 0), (0,) * 1000,
    # a work ahead of its begin
    (2,), (3,), (0, 3), (1, 3), (2, 0), (3, 0), (0, 3, 1), (2, 1, 0), (3, 2, 1, 0),
    # a number that is no work
    (4,), (0, 4), (0, 1, 4), (0, 1, 2, 4), (0, 1, 2, 3, 4), (-1,), (0, -1), (-2, 0), (99,), (10 ** 400,), (-10 ** 400,),
    # True and False
    (True,), (False,), (False, True), (0, True), (True, 0), (1, False), (0, 1, True), (0, 2, True),
    # things of other kinds within the tuple
    ("0",), ("",), (None,), ((),), ((0,),), ([],), ([0],), ({},), (set(),), (b"0",), (object(),), (int,),
    (0, "1"), (0, None), (0, (1,)), (0, [1]), (0, {}), (0, 1, 2, "3"), (0, 1, 2, [3]), (None, 0), ([0], 0),
    (0, 1, 2, 3, None), (0, 1, 2, 3, []),
] + [(thing,) for thing in ODD_THINGS] + [(0, thing) for thing in ODD_THINGS]

# For WORLD.
NO_LENGTHS = THINGS_OF_OTHER_KINDS + [
    # too few, too many, and beyond the bounds by 1
    (), (3,), (3, 4, 5), (4, 5, 6), (3, 4, 5, 6, 6), (3, 4, 5, 6, None),
    (2, 4, 5, 6), (6, 4, 5, 6), (3, 3, 5, 6), (3, 5, 5, 6), (3, 4, 0, 6), (3, 4, 10, 6), (3, 4, 5, 1), (3, 4, 5, 7),
    # no tuple, and what is no length within it
    [3, 4, 5, 6], {3: 1, 4: 1, 5: 1, 6: 1}, {3, 4, 5, 6}, "3456", range(3, 7), ((3, 4, 5, 6),),
    (True, 4, 5, 6), (3, 4, 5, False),
] + [(3, 4, thing, 6) for thing in NO_NUMBERS + ["5", (5,), [5], -5, 10 ** 400]]

NO_TEXTS = [thing for thing in THINGS_OF_OTHER_KINDS if not isinstance(thing, str)] + [(), ("",), [""], {"": 1}, b""]


def orders_by_playing(benches, works):
    """All orders of no work, of some, and of all, found end by end, whether they can have been or not."""
    found = []
    waiting = [()]
    while waiting:
        order = waiting.pop()
        found.append(order)
        began = range(min(works, benches + len(order)))
        waiting += [order + (work,) for work in began if work not in order]
    return found


def play(benches, lengths):
    """Plays works moment by moment: the moments with ends, each with its rising works, and the works of each bench."""
    row = list(range(len(lengths)))
    at_work = [None] * benches
    done = [[] for bench in range(benches)]
    left = [0] * benches
    ends = []
    moment = 0
    while row or any(left):
        for bench in range(benches):
            if not left[bench] and row:
                at_work[bench] = row.pop(0)
                left[bench] = lengths[at_work[bench]]
                done[bench].append(at_work[bench])
        moment += 1
        ended = sorted(at_work[bench] for bench in range(benches) if left[bench] == 1)
        left = [max(0, many - 1) for many in left]
        if ended:
            ends.append((moment, ended))
    return ends, done


def timeline(benches, lengths, row):
    """Works taken up in a row, moment by moment: for each moment till the last end a tuple of what each bench does."""
    row = list(row)
    at_work = [None] * benches
    left = [0] * benches
    told = []
    while row or any(left):
        for bench in range(benches):
            if not left[bench]:
                at_work[bench] = row.pop(0) if row else None
                left[bench] = 0 if at_work[bench] is None else lengths[at_work[bench]]
        told.append(tuple(at_work))
        left = [max(0, many - 1) for many in left]
    return told


def tellings(ends):
    """All orders in which ends can be told, those of one moment in any order."""
    told = [()]
    for moment, ended in ends:
        told = [order + part for order in told for part in itertools.permutations(ended)]
    return told


def all_lengths(world):
    return itertools.product(*[range(least, greatest + 1) for least, greatest in world[1]])


def count(world):
    """For each order that can have been, of no work on, all plays of it: sets of tuples of lengths and moments."""
    counted = {}
    for lengths in all_lengths(world):
        ends, done = play(world[0], lengths)
        moments = tuple(moment for moment, ended in ends for work in ended)
        for order in tellings(ends):
            for many in range(len(order) + 1):
                counted.setdefault(order[:many], set()).add((lengths, moments[:many]))
    return counted


def numbers(start):
    """Endless numbers from 0 to 999 that are the same each time."""
    number = start
    while True:
        number = (number * 1103515245 + 12345) % 2 ** 31
        yield number // 2 ** 16 % 1000


def mixed_worlds(many, works, most_length, most_more, start):
    """Worlds with 1 to 4 benches and as many works, with bounds that lie apart by no more than told."""
    step = numbers(start)
    worlds = []
    for world in range(many):
        bounds = []
        for work in range(works):
            least = 1 + next(step) % most_length
            bounds.append((least, min(99, least + next(step) % (most_more + 1))))
        worlds.append((1 + next(step) % 4, tuple(bounds)))
    return worlds


# All worlds of up to two works with lengths up to 4, then worlds of more works, such that all lengths can be played.
SMALL_WORLDS = [
    (benches, bounds)
    for works in (1, 2)
    for bounds in itertools.product([(least, most) for least in range(1, 5) for most in range(least, 5)], repeat=works)
    for benches in (1, 2, 3)
] + mixed_worlds(100, 3, 6, 4, 1) + mixed_worlds(80, 4, 5, 3, 2)
SMALL_WORLDS += mixed_worlds(20, 5, 4, 2, 3) + mixed_worlds(6, 6, 3, 1, 4)

LARGE_WORLDS = mixed_worlds(30, 10, 12, 6, 5) + mixed_worlds(20, 9, 99, 60, 6) + mixed_worlds(20, 7, 20, 5, 7) + [
    (benches, bounds * 10) for benches in range(1, 5) for bounds in [((1, 1),), ((99, 99),), ((1, 99),), ((98, 99),)]
]

COUNTS = {}


def counted_worlds():
    """The small worlds, each with its count, which is made once for all tests of a file."""
    if not COUNTS:
        COUNTS.update((world, count(world)) for world in SMALL_WORLDS)
    return COUNTS.items()


def counted_orders():
    """All orders of the small worlds that can have been, each with its world and its plays."""
    for world, counted in counted_worlds():
        for order, plays in counted.items():
            yield world, order, plays


def barred_orders():
    """All orders of the small worlds that can not have been, each with its world."""
    for world, counted in counted_worlds():
        for order in orders_by_playing(world[0], len(world[1])):
            if order not in counted:
                yield world, order


def some_lengths(world, start):
    """Three tuples of lengths within the bounds."""
    step = numbers(start)
    return [
        tuple(least + next(step) % (greatest - least + 1) for least, greatest in world[1]) for again in range(3)
    ]


def length_by(world, order, moments, work):
    """How long a work was, by the moments of all ends that were told."""
    event = max(0, work - world[0] + 1)
    return moments[order.index(work)] - (moments[event - 1] if event else 0)


def changed_once(text, signs):
    """All texts that come of a text if one sign is left out, put in or exchanged, or two places are exchanged."""
    found = []
    for place in range(len(text) + 1):
        ahead, behind = text[:place], text[place:]
        found += [ahead + sign + behind for sign in signs]
        if behind:
            found.append(ahead + behind[1:])
            found += [ahead + sign + behind[1:] for sign in signs if sign != behind[0]]
        found += [
            ahead + behind[other] + behind[1:other] + behind[0] + behind[other + 1:] for other in range(1, len(behind))
        ]
    return found


def changed_twice(text, signs, many, start):
    """So many texts that come of a text if that is done twice."""
    step = numbers(start)
    once = changed_once(text, signs)
    found = []
    while len(found) < many:
        twice = changed_once(once[(next(step) * 1000 + next(step)) % len(once)], signs)
        found += [twice[(next(step) * 1000 + next(step)) % len(twice)] for again in range(20)]
    return found
