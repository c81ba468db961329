"""What several test files use: lineups, wrong values, and a call worked out by hand."""

from itertools import combinations, permutations, product

L = [(0, "a"), (1, "b"), (2, "c"), (3, "a")]
M = [(0, "a"), (1, "b"), (2, "c")]
N = [(0, "a"), (1, "b")]

LETTERS = "abcdefghijklmnopqrstuvwxyz"


class ListKind(list):
    """A list of another kind."""


class TupleKind(tuple):
    """A tuple of another kind."""


class TextKind(str):
    """A string of another kind."""


class Touchy:
    """A value that can be neither compared, measured, iterated nor hashed."""

    def touched(self, *args):
        raise RuntimeError("touched")

    __eq__ = __ne__ = __lt__ = __le__ = __gt__ = __ge__ = touched
    __len__ = __iter__ = __getitem__ = __contains__ = touched
    __bool__ = __hash__ = __index__ = __int__ = touched


def circle():
    """A list that contains itself."""
    items = []
    items.append(items)
    return items


WRONG_LINEUPS = [
    # the number of people
    [],
    [(k, "a") for k in range(61)],
    [(k, "a") for k in range(200)],
    # the persons
    [(0, "a"), (0, "b")],
    [(0, "a"), (1, "b"), (1, "b")],
    [(1, "a")],
    [(0, "a"), (2, "b")],
    [(-1, "a"), (0, "b")],
    [(-1, "a")],
    [(1, "a"), (2, "b")],
    [(0, "a"), (1, "b"), (3, "c")],
    [(10 ** 30, "a")],
    [(False, "a")],
    [(0, "a"), (True, "b")],
    [("0", "a")],
    [(None, "a")],
    [(0.0, "a")],
    [([0], "a")],
    [(0, "a"), ("1", "b")],
    [(0, "a"), (None, "b")],
    # the colors
    [(0, "ab")],
    [(0, "")],
    [(0, "A")],
    [(0, "Z")],
    [(0, "`")],
    [(0, "{")],
    [(0, " ")],
    [(0, "1")],
    [(0, "\u00e9")],
    [(0, "\u00df")],
    [(0, None)],
    [(0, 0)],
    [(0, True)],
    [(0, b"a")],
    [(0, ["a"])],
    [(0, ("a",))],
    [(0, TextKind("a"))],
    [(0, "a"), (1, "b"), (2, "cc")],
    # the tuples
    [[0, "a"]],
    [(0, "a"), [1, "b"]],
    [(0,)],
    [()],
    [(0, "a", "b")],
    [(0, "a"), (1, "b", None)],
    [("a", 0)],
    ["0a"],
    [0],
    [None],
    [{0: "a", 1: "b"}],
    [TupleKind((0, "a"))],
    [Touchy()],
    [(Touchy(), "a")],
    [(0, Touchy())],
    # the list
    ((0, "a"),),
    ((0, "a"), (1, "b")),
    ListKind([(0, "a")]),
    {0: "a"},
    {(0, "a")},
    "0a",
    "",
    b"0a",
    None,
    True,
    False,
    0,
    1,
    -1,
    0.5,
    object(),
    list,
    circle(),
    Touchy(),
]

WRONG_COLORS = [
    "ab", "", "A", "Z", "`", "{", " ", "0", "a ", "\u00e9", "\u00df",
    None, True, 0, 1, b"a", ["a"], ("a",), {"a": 1}, TextKind("a"), object(), Touchy(),
]

WRONG_COLOR_SETS = [
    "", "A", "Z", "aB", "Ab", "`a", "a{", "a b", " a", "a ", "a,b", "a1", "0", "\u00e9", "a\u00e9",
    "ba", "acb", "zy", "aa", "abb", "aab", "abca", LETTERS[::-1], LETTERS + "z", LETTERS * 2, "a" * 4000,
    ["a"], ["a", "b"], [], ("a",), {"a"}, {"a": 1}, b"a", None, True, False, 0, 1, 0.5,
    TextKind("a"), TextKind("ab"), object(), circle(), Touchy(),
]

WRONG_INTEGERS = [True, False, None, "0", "", 0.0, [0], (0,), b"0", -1, -(10 ** 30), {0: 0}, object(), Touchy()]

WRONG_LISTS = [(), (0,), (0, 1), None, True, 0, "01", "", b"0", {0: 1}, {0}, range(2), ListKind([0]), object(), Touchy()]


def color_sets(letters):
    """Every color set of these letters, which are in ascending order."""
    for size in range(1, len(letters) + 1):
        for chosen in combinations(letters, size):
            yield "".join(chosen)


def small_lineups(most, letters):
    """Every lineup of at most this many people with these colors."""
    for size in range(1, most + 1):
        for order in permutations(range(size)):
            for colors in product(letters, repeat=size):
                yield list(zip(order, colors))


def color_patterns(size):
    """Every row of this many colors, each other than the others by more than the names of its colors."""
    for colors in product(LETTERS[:size], repeat=size):
        if "".join(dict.fromkeys(colors)) == LETTERS[:len(set(colors))]:
            yield "".join(colors)


def call_by_hand(lineup, person):
    """A tuple: the lineup after a call, and the color taken, word by word as section 3 says."""
    order = [someone for someone, _ in lineup]
    worn = dict(lineup)
    differing = [worn[someone] for someone in order if worn[someone] != worn[person]]
    taken = differing[0] if differing else None
    if taken is not None:
        worn[person] = taken
    order.remove(person)
    order.insert(0, person)
    return [(someone, worn[someone]) for someone in order], taken


def long_calls(people, length, state=7):
    """A fixed list of calls in no simple order."""
    calls = []
    for _ in range(length):
        state = (state * 1103515245 + 12345) & 0x7FFFFFFF
        calls.append((state >> 8) % people)
    return calls


def mixed_lineup(size, letters, number):
    """A fixed lineup in no simple order, another one for each number."""
    persons = list(range(size))
    for place, other in enumerate(long_calls(size, size, 1000 + number)):
        persons[place], persons[other] = persons[other], persons[place]
    colors = [letters[k] for k in long_calls(len(letters), size, 5000 + number)]
    return list(zip(persons, colors))


def colors_of(lineup):
    """The colors from the front as one string."""
    return "".join(color for _, color in lineup)


def goal_place(lineup, colors):
    """The place of the first person with a color of the set, or None."""
    places = [place for place, (_, color) in enumerate(lineup) if color in colors]
    return places[0] if places else None


def outside_by_hand(lineup, colors):
    """The persons whose color is not in the set."""
    return [person for person, color in lineup if color not in colors]


def in_the_way_by_hand(lineup, color, place):
    """The persons in front of this place who do not have the color."""
    return [person for person, worn in lineup[:place] if worn != color]


def is_chain_by_hand(lineup, colors, chain):
    """Whether a list of colors is a chain, sentence by sentence as section 3 says."""
    text, goal = colors_of(lineup), goal_place(lineup, colors)
    if goal is None:
        return False
    if text[0] in colors:
        return chain == []
    if len(set(chain)) != len(chain) or any(color in colors for color in chain):
        return False
    if chain[:1] != [text[0]] or any(color not in text for color in chain):
        return False
    if any(text.find(after) <= text.find(before) for before, after in zip(chain, chain[1:])):
        return False
    return all(text.find(color) < goal for color in chain)


def steps_by_hand(lineup, colors, chain):
    """The people of each step of a chain, the last step too, as section 8 says."""
    text = colors_of(lineup)
    ends = [text.find(color) for color in chain[1:]] + [goal_place(lineup, colors)]
    steps = [in_the_way_by_hand(lineup, color, end) for color, end in zip(chain, ends)]
    return steps + [outside_by_hand(lineup, colors)]


def cost_by_hand(lineup, colors, chain):
    """The cost of a chain as section 3 says."""
    return sum(len(people) for people in steps_by_hand(lineup, colors, chain))


def chains_by_hand(lineup, colors):
    """Every chain, found among all lists of colors in the order of their first persons."""
    order = list(dict.fromkeys(colors_of(lineup)))
    lists = [list(chosen) for size in range(len(order) + 1) for chosen in combinations(order, size)]
    return [chain for chain in lists if is_chain_by_hand(lineup, colors, chain)]
