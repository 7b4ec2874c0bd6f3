"""Bushes, wrong values and plain second ways to count, which the tests share."""

from functools import lru_cache

from tipwoods import errors
from tipwoods.gardeners import Gardener

F = ("f", (), ())
S = ("s", ())
W = ("f", S, S)
D = ("a", ("a", (), ("a", ())), ("a", ("a", ()), ()))
LETTERS = "abcdefghijklmnopqrstuvwxyz"


def chain(knots, letter="s", end=()):
    """A bush of so many knots, each with one branch, above another bush."""
    bush = end
    for _ in range(knots):
        bush = (letter, bush)
    return bush


def wide(parts):
    """A bush with so many parts, of which as many as can be are branches of few knots."""
    def made(left):
        # A knot takes one part, and each of its branches one at least.
        branches = []
        left -= 1
        many = min(6, left)
        for at in range(many):
            rest = left - (many - at - 1)
            share = min(rest, (left + many - 1) // many) if at < many - 1 else rest
            if share == 1:
                branches.append(())
            elif share == 2:
                branches.append(("w", ()))
            else:
                branches.append(made(share))
            left -= share
        return ("w", *branches)
    if parts == 1:
        return ()
    bush = made(parts)
    assert count_parts(bush) == parts
    return bush


def count_parts(bush):
    return 1 + sum(count_parts(branch) for branch in bush[1:])


def depth_of(bush):
    return 1 + max(depth_of(branch) for branch in bush[1:]) if bush else 0


def doubled(times):
    """A value of few objects that is a knot with two to the power of so many tips."""
    value = ()
    for _ in range(times):
        value = ("d", value, value)
    return value


def nested(times, made):
    value = made()
    for _ in range(times):
        value = made([value])
    return value


@lru_cache(maxsize=None)
def rows_with(knots, many, kinds):
    """All rows of so many bushes with so many knots in all, as a tuple."""
    if many == 0:
        return ((),) if knots == 0 else ()
    return tuple(
        (bush, *row)
        for inside in range(knots + 1)
        for bush in bushes_with(inside, kinds)
        for row in rows_with(knots - inside, many - 1, kinds)
    )


@lru_cache(maxsize=None)
def bushes_with(knots, kinds):
    """All bushes with so many knots, of the kinds (letter, branches), as a tuple."""
    if knots == 0:
        return ((),)
    return tuple((letter, *row) for letter, many in kinds for row in rows_with(knots - 1, many, kinds))


KINDS = (("a", 1), ("a", 2), ("b", 1), ("b", 2))
WIDE_KINDS = (("a", 1), ("a", 3), ("b", 2))


def small_bushes(knots, kinds=KINDS):
    """All bushes of the kinds with at most so many knots."""
    return [bush for many in range(knots + 1) for bush in bushes_with(many, kinds)]


def plainly_grown(bush, growth):
    return (bush[0], *(plainly_grown(branch, growth) for branch in bush[1:])) if bush else growth


def plainly_grown_by(bush, growths):
    for growth in growths:
        bush = plainly_grown(bush, growth)
    return bush


def drawn(long):
    """The bush of a long row, grown year by year."""
    return plainly_grown_by((), [growth for growth, years in long for _ in range(years)])


def letters(word):
    """The bush that has, for each letter of a word, a prime: the knot with one branch."""
    return plainly_grown_by((), [(letter, ()) for letter in word])


def roads_of(bush):
    """The dict of all roads with their parts."""
    found = {(): bush}
    for index, branch in enumerate(bush[1:]):
        for road, part in roads_of(branch).items():
            found[(index, *road)] = part
    return found


def lesser_first(roads):
    return sorted(roads, key=lambda road: (len(road), road))


def turned_once(bush):
    """The list of all bushes that come of one by exchanging two neighbouring branches of one of its knots."""
    found = []
    for at in range(1, len(bush)):
        if at + 1 < len(bush):
            found.append((*bush[:at], bush[at + 1], bush[at], *bush[at + 2:]))
        found.extend((*bush[:at], branch, *bush[at + 1:]) for branch in turned_once(bush[at]))
    return found


@lru_cache(maxsize=None)
def copies_with_turns(bush):
    """The dict of all turned copies of a bush, with the fewest turns to each, told by turning again and again."""
    found = {bush: 0}
    level = [bush]
    while level:
        below = []
        for copy in level:
            for other in turned_once(copy):
                if other not in found:
                    found[other] = found[copy] + 1
                    below.append(other)
        level = below
    return found


def plain_text(bush):
    return bush[0] + "(" + "".join(map(plain_text, bush[1:])) + ")" if bush else "."


# Values of all kinds that [2] lets a caller hand in; none is a bush, a row of
# growths, a road, names, a text, a store, a long row, runs, a bunch, or a number
# that is let.
ODD_VALUES = [
    None, True, False, -1, -10 ** 119, 10 ** 119, 10 ** 120 - 1,
    "", "f", "(", "f(..)", "-\n", "x" * 4000, "~" * 26, LETTERS[:25] + "A",
    [], [()], [F], ["f", (), ()], [[]], [0] * 1000, nested(99, list),
    ("f",), ("f", "s"), (None,), (True,), ((), None), ([],), ("f(..)",),
    (F, None), ("f", [], ()), (F, [S]), ("F", ()), ("fs", ()), ("", ()), (1, ()), (None, ()),
    (F, "f"), (("f",),), ("x",) * 1000, (-1,) * 1000, (None, None), (None, -1),
    nested(99, tuple), nested(98, tuple) + (1,), (nested(98, tuple), True),
    errors.BushError("odd"), errors.InvalidText(3), (errors.TooMany(400),), [errors.NoKnot()],
    Gardener(()), (Gardener(F),), [Gardener(S)], ("f", Gardener(())),
]

# Wrong as a bush, and as a growth, a pair's growth or a row's item, too.
NO_BUSHES = [
    ("f",), ("F", ()), ("fs", ()), ("", ()), (1, ()), (None, ()), (True, ()), (("f",), ()), (["f"], ()),
    ("`", ()), ("{", ()), (" ", ()), ("f", None), ("f", []), ("f", "s"), ("f", 0), ("f", (), ("s",)),
    ("f", ()) + ((),) * 6, ["f", ()], ("f", ["s", ()]), ((), ()), ((),), "f", 7, None, True,
    wide(401), chain(61), chain(60, "s", F), ("f", (), chain(60)), doubled(9), doubled(100),
    ("f", S, (("s", ()),)), ("f", (), (1, ())), chain(99), ("f", errors.NoKnot()),
]

NO_ROWS = [
    F, S, [F], [], None, 0, "", "-", (F,) * 13, ((),) * 13, (F, None), (F, ("f",)), (None,), ((F,),), (F, [S]),
    (wide(401),), (S, chain(61)), (F,) * 11 + (doubled(100),), ("",), (True,), errors.NoKnot(),
]

# Wrong as a road in F, and in W but for those that go on.
NO_ROADS = [
    None, 0, "0", "", [], [0], (2,), (-1,), (True,), (False,), ("0",), (None,), ((0,),), (0, 0), (0, 1), (1, -1),
    (10 ** 119,), (-(10 ** 119),), (0,) * 1000, F, (0, None), ((),), ([],),
]

NO_NAMES = [
    None, 26, "", "a" * 26, LETTERS[:25], LETTERS + "a", LETTERS[:25] + "A", LETTERS[:25] + "y", LETTERS.upper(),
    list(LETTERS), tuple(LETTERS), LETTERS * 150, LETTERS[:25] + " ", "bcdefghijklmnopqrstuvwxyz",
]


def no_numbers(least, greatest):
    """Wrong values where an integer from the least to the greatest one is let."""
    return [
        None, True, False, "", str(least), (), (least,), [least], F,
        least - 1, greatest + 1, -10 ** 119, 10 ** 119,
    ]


NO_STORES = [
    None, 0, "", (), [], [("f", 2)], (("f", 2), ("f", 2)), (("s", 1), ("f", 2)), (("f", 2), ("f", 1)),
    (("f", 0),), (("f", 7),), (("f", True),), (("f", "2"),), (("F", 2),), (("fs", 2),), (("", 2),), ((2, "f"),),
    (("f",),), (("f", 2, 2),), (["f", 2],), ("f", 2), (("f", 2), None), ("f2",), ((None, 2),), F,
    tuple((letter, 1) for letter in "abcdefghi"), (("f", 2), ("s", 1), ("s", None)), (("f", -1),), (("f", None),),
]

NO_LONG_ROWS = [
    None, 0, "", [], [(F, 1)], (F, 1), F, (F,), ((F,),), ((F, 1, 1),), ([F, 1],), ((F, -1),), ((F, 10 ** 30 + 1),),
    ((F, True),), ((F, False),), ((F, "1"),), ((F, None),), ((1, F),), ((F, 1), (("f",), 1)), ((F, 1),) * 13,
    ((wide(401), 1),), ((chain(61), 0),), ((F, 1), None), ((F, 1), (S, 10 ** 119)), ((doubled(100), 1),), ("f1",),
    (((), 1),) * 13,
]

NO_BUNCHES = [
    None, 0, "", "fs", (), [], [F], [F, S], F, D, ((),), (F, ()), ((), F), (F, F), (F, S, F), (S, ("s", ())),
    (F, None), (F, ("f",)), (F, [S]), (F, (S,)), ((F,),), tuple(chain(knots) for knots in range(1, 8)), (wide(401),),
    (chain(61), F), (F, doubled(100)), (doubled(100), doubled(100)), (F, True), (errors.NoKnot(),), (F, 10 ** 119),
]

NO_COUNTS = [
    None, 0, 1, "", "1", (), [], [1], (0,), (0, 0), (1, 0), (0, 6, 0), (-1,), (1, -1), (True,), (0, True), ("1",),
    (None,),
    ((1,),), (0, 10 ** 18 + 1), (10 ** 18 + 1, 1), (0,) * 61 + (1,), (1,) * 62, (0, [1]), (0, "6"), F, (0, 10 ** 119),
    (0, None, 1), (1, -10 ** 119, 1), (errors.NoKnot(),), (0, ()),
]

NO_WORDS = [
    None, 0, "", "ab", (), [], [("a", 1)], ("a", 1), (("a",),), (("a", 1, 1),), (["a", 1],), (("a", 0),), (("a", -1),),
    (("a", True),), (("a", "1"),), (("a", None),), (("A", 1),), (("a b", 1),), (("`", 1),), (("{", 1),), ((1, "a"),),
    ((None, 1),), (("a", 10 ** 18 + 1),), (("a" * 61, 1),), (("b", 1), ("a", 1)), (("a", 1), ("a", 1)),
    (("a", 1), ("a", 2)), (("a", 2), ("a", 1)), (("a", 1), ("", 1)), (("a", 1), None), (("a", 1), ("b",)),
    tuple((first + second, 1) for first in "abcdefghi" for second in LETTERS)[:201], ((("a",), 1),), F,
    ("a1",), (("a", 1), ("b", errors.NoKnot())), (("a\n", 1),), (("a.", 1),), (("", 1), ("a", 1), ("aa", 10 ** 119)),
]

NO_GRAFTS = [
    None, 0, "", [], [(0, F)], (0, F), ((0,),), ((0, F, F),), ([0, F],), ((-1, F),), ((101, F),), ((True, F),),
    ((False, F),),
    (("0", F),), ((None, F),), ((F, 0),), ((0, None),), ((0, ("f",)),), ((0, [S]),), ((0, F), None), ((0, F), (101, F)),
    ((0, ()),) * 13, ((0, F),) * 13, F, (F,), ((),), ((0, wide(400)), (0, ())), ((0, wide(201)), (1, wide(200))),
    ((0, chain(60)), (0, S)), ((0, chain(31)), (0, chain(30))), ((0, wide(401)),), ((0, chain(61)),),
    ((0, doubled(100)),),
    ((100, ()),) * 12 + ((0, ()),), ((10 ** 119, F),), ((0, F), (0, errors.NoKnot())), ("0f",),
]

# Wrong as a mixed bush with two sorts, and as a mixed growth's item, too.
NO_MIXED = [
    None, True, False, -1, 2, 4, "0", "", (), (0,), [0], [], ("f",), ("f", 2), ("f", -1), ("f", True), ("f", ()),
    ("f", "0"),
    ("f", None), ("f", 0, 2), ("F", 0), ("fs", 0), ("", 0), (0, 1), ("f", [0]), ["f", 0], ("f", 0, 1, 0, 1, 0, 1, 0),
    ("f", ("s", 0), ("s",)), ("f", ("s", 0), ("s", 2)), F, S, chain(61, "s", 0), chain(60, "s", ("f", 0)), doubled(100),
    ("f", chain(60, "s", 1), 0), 10 ** 119, errors.NoKnot(), ("f", errors.NoKnot()),
    ("f", *[("f", *[("f", *[("f", 0, 0, 0, 0, 0)] * 4)] * 4)] * 4, 0, 0),
]

# Wrong as a mixed growth with two sorts.
NO_CHANGES = [(0, wrong) for wrong in NO_MIXED] + [(wrong, 1) for wrong in NO_MIXED] + [
    None, 0, "", "01", (), (0,), (0, 1, 0), [0, 1], [], ((0, 1),), (0, [1]), ("f", 0, 1), F, (0, 1, 0, 1),
]

NO_STOCKS = [
    None, 0, "", (), [], [F], F, ((),), (F, ()), ((), F), (F,) * 7, (F, None), (F, ("f",)), (F, [S]), (F, (S,)),
    ((F,),),
    (wide(41),), (F, chain(40)), (wide(401),), (doubled(100),), (chain(61),), (True,), (errors.NoKnot(),),
    (F, 10 ** 119),
]

NO_HEARDS = [
    None, 0, "", "f0", [], [("f", 0)], ("f", 0), (("f",),), (("f", 0, 0),), (["f", 0],), (("f", -1),), (("f", 6),),
    (("f", True),), (("f", False),), (("f", "0"),), (("f", None),), (("F", 0),), (("fs", 0),), (("", 0),), ((0, "f"),),
    ((None, 0),), (("f", 0), None), (("f", 0), ("f", 6)), (("f", 0),) * 61, F, ("f0",), ((),), (("f", 10 ** 119),),
    (("f", errors.NoKnot()),), ((("f",), 0),),
]

NO_DEEDS = [
    None, 0, "", "mirror", (), ("mirror", 0), ("mirror", ()), ["mirror"], ("year",), ("year", F, F), ("year", None),
    ("year", ("f",)), ("year", [S]), ("year", wide(401)), ("year", chain(61)), ("year", doubled(100)), ("Year", F),
    ("rename",), ("rename", "a"), ("rename", "a", "b", "c"), ("rename", "A", "b"), ("rename", "a", "B"),
    ("rename", "ab", "c"), ("rename", "a", ""), ("rename", 1, "a"), ("rename", "a", None), ("cut",), ("cut", -1),
    ("cut", 61), ("cut", True), ("cut", False), ("cut", "1"), ("cut", None), ("cut", 1, 1), ("cut", 10 ** 119), F, S,
    ("prune", 1), (None,), (("mirror",),), (1, F), (errors.NoKnot(),), ("year", errors.NoKnot()), ("cut", ()),
]

NO_LOGS = [(wrong,) for wrong in NO_DEEDS] + [(("mirror",), wrong) for wrong in NO_DEEDS] + [
    None, 0, "", "mirror", [], [("mirror",)], ("mirror",), ("year", F), ("cut", 1), (("mirror",),) * 21, F, S,
    (("year", ()),) * 20 + (("cut", 0),), errors.NoKnot(),
]


def raised_by(function, *arguments):
    """The error that a call raises, None if it raises none; what is handed in must stay as it was."""
    kept = [repr(argument) for argument in arguments if isinstance(argument, list)]
    try:
        function(*arguments)
    except errors.BushError as error:
        found = error
    else:
        found = None
    assert kept == [repr(argument) for argument in arguments if isinstance(argument, list)]
    return found
