"""What several test files use: lineups, wrong values, and a call worked out by hand."""

from itertools import permutations, product

L = [(0, "a"), (1, "b"), (2, "c"), (3, "a")]
M = [(0, "a"), (1, "b"), (2, "c")]
N = [(0, "a"), (1, "b")]

LETTERS = "abcdefghijklmnopqrstuvwxyz"


class ListKind(list):
    """A list of another kind."""


class TupleKind(tuple):
    """A tuple of another kind."""


class TextKind(str):
    """A string of another kind."""


class Touchy:
    """A value that can be neither compared, measured, iterated nor hashed."""

    def touched(self, *args):
        raise RuntimeError("touched")

    __eq__ = __ne__ = __lt__ = __le__ = __gt__ = __ge__ = touched
    __len__ = __iter__ = __getitem__ = __contains__ = touched
    __bool__ = __hash__ = __index__ = __int__ = touched


def circle():
    """A list that contains itself."""
    items = []
    items.append(items)
    return items


WRONG_LINEUPS = [
    # the number of people
    [],
    [(k, "a") for k in range(61)],
    [(k, "a") for k in range(200)],
    # the persons
    [(0, "a"), (0, "b")],
    [(0, "a"), (1, "b"), (1, "b")],
    [(1, "a")],
    [(0, "a"), (2, "b")],
    [(-1, "a"), (0, "b")],
    [(-1, "a")],
    [(1, "a"), (2, "b")],
    [(0, "a"), (1, "b"), (3, "c")],
    [(10 ** 30, "a")],
    [(False, "a")],
    [(0, "a"), (True, "b")],
    [("0", "a")],
    [(None, "a")],
    [(0.0, "a")],
    [([0], "a")],
    [(0, "a"), ("1", "b")],
    [(0, "a"), (None, "b")],
    # the colors
    [(0, "ab")],
    [(0, "")],
    [(0, "A")],
    [(0, "Z")],
    [(0, "`")],
    [(0, "{")],
    [(0, " ")],
    [(0, "1")],
    [(0, "\u00e9")],
    [(0, "\u00df")],
    [(0, None)],
    [(0, 0)],
    [(0, True)],
    [(0, b"a")],
    [(0, ["a"])],
    [(0, ("a",))],
    [(0, TextKind("a"))],
    [(0, "a"), (1, "b"), (2, "cc")],
    # the tuples
    [[0, "a"]],
    [(0, "a"), [1, "b"]],
    [(0,)],
    [()],
    [(0, "a", "b")],
    [(0, "a"), (1, "b", None)],
    [("a", 0)],
    ["0a"],
    [0],
    [None],
    [{0: "a", 1: "b"}],
    [TupleKind((0, "a"))],
    [Touchy()],
    [(Touchy(), "a")],
    [(0, Touchy())],
    # the list
    ((0, "a"),),
    ((0, "a"), (1, "b")),
    ListKind([(0, "a")]),
    {0: "a"},
    {(0, "a")},
    "0a",
    "",
    b"0a",
    None,
    True,
    False,
    0,
    1,
    -1,
    0.5,
    object(),
    list,
    circle(),
    Touchy(),
]

WRONG_COLORS = [
    "ab", "", "A", "Z", "`", "{", " ", "0", "a ", "\u00e9", "\u00df",
    None, True, 0, 1, b"a", ["a"], ("a",), {"a": 1}, TextKind("a"), object(), Touchy(),
]

WRONG_INTEGERS = [True, False, None, "0", "", 0.0, [0], (0,), b"0", -1, -(10 ** 30), {0: 0}, object(), Touchy()]

WRONG_LISTS = [(), (0,), (0, 1), None, True, 0, "01", "", b"0", {0: 1}, {0}, range(2), ListKind([0]), object(), Touchy()]


def small_lineups(most, letters):
    """Every lineup of at most this many people with these colors."""
    for size in range(1, most + 1):
        for order in permutations(range(size)):
            for colors in product(letters, repeat=size):
                yield list(zip(order, colors))


def call_by_hand(lineup, person):
    """A tuple: the lineup after a call, and the color taken, word by word as section 3 says."""
    order = [someone for someone, _ in lineup]
    worn = dict(lineup)
    differing = [worn[someone] for someone in order if worn[someone] != worn[person]]
    taken = differing[0] if differing else None
    if taken is not None:
        worn[person] = taken
    order.remove(person)
    order.insert(0, person)
    return [(someone, worn[someone]) for someone in order], taken


def long_calls(people, length):
    """A fixed list of calls in no simple order."""
    calls = []
    state = 7
    for _ in range(length):
        state = (state * 1103515245 + 12345) & 0x7FFFFFFF
        calls.append((state >> 8) % people)
    return calls
