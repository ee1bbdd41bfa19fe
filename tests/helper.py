"""What the tests share: checks of what is told and refused, trees and rules to try, and a second reckoning."""

import copy
import itertools
import re
import unittest

from everyseat import errors

FAR = 10 ** 29 + 7
PAIRS = ("plus", "less", "times", "most", "least")
ERROR_NAMES = ("NoTree", "NoPlace", "NoOrder", "NoRule", "NoPaper",
               "NoName", "NoLength", "NoTie", "NoText", "NoForm")

OWN, TIE, SO0, SO1, MORE0, MORE1 = ("own",), ("tie",), ("so", 0), ("so", 1), ("more", 0), ("more", 1)


def number(n):
    return ("number", n)


def lists_in(value):
    """All lists in a value, itself too."""
    found = [value] if isinstance(value, list) else []
    if isinstance(value, (list, tuple)):
        for item in value:
            found.extend(lists_in(item))
    return found


class SeatCase(unittest.TestCase):
    """Each check also sees that nothing handed in was changed and that nothing told is kept."""

    def same(self, told, expected):
        # By their texts, for True == 1, but a whole number is no truth.
        self.assertEqual(repr(told), repr(expected))

    def tells(self, expected, call, *handed):
        before = copy.deepcopy(handed)
        first = call(*handed)
        self.same(first, expected)
        self.same(handed, before)
        self.shares_nothing(first, handed)
        self.assertEqual(len({id(one) for one in lists_in(first)}), len(lists_in(first)))
        again = call(*handed)
        self.same(again, expected)
        for one in lists_in(again):
            one.append("spoilt")
        self.same(first, expected)
        self.same(call(*handed), expected)

    def shares_nothing(self, told, handed):
        shared = [one for one in lists_in(told) for other in lists_in(handed) if one is other]
        self.assertEqual(shared, [])

    def refuses(self, name, call, *handed):
        before = copy.deepcopy(handed)
        with self.assertRaises(errors.SeatError) as caught:
            call(*handed)
        self.assertIs(type(caught.exception), getattr(errors, name))
        self.same(handed, before)


def tree_by_code(code, many):
    """The labelled tree that a Pruefer code tells, with worths and lengths that are all different."""
    left = [1 + code.count(place) for place in range(many)]
    ends = []
    for place in code:
        leaf = left.index(1)
        ends.append((leaf, place))
        left[leaf] -= 1
        left[place] -= 1
    if many > 1:
        ends.append(tuple(place for place in range(many) if left[place] == 1))
    ties = sorted((min(pair), max(pair)) for pair in ends)
    worths = [(place + 2) ** 2 * (-1) ** place for place in range(many)]
    return worths, [(a, b, 3 ** (at + 1) - 5) for at, (a, b) in enumerate(ties)]


def all_trees(most):
    """Every tree of one up to so many places."""
    for many in range(1, most + 1):
        for code in itertools.product(range(many), repeat=max(0, many - 2)):
            yield tree_by_code(code, many)


def path_tree(many):
    return [7 - place for place in range(many)], [(at, at + 1, at * at - 9) for at in range(many - 1)]


def star_tree(many, hub):
    pairs = sorted((min(hub, place), max(hub, place)) for place in range(many) if place != hub)
    return [place * 3 - 20 for place in range(many)], [(a, b, a * 5 - b) for a, b in pairs]


def bushy_tree(many):
    """Each place is tied to one further ahead; worths and lengths of thirty figures, also below 0."""
    ties = [((place * place + 3) // 2 % place, place, (place - many // 2) * FAR) for place in range(1, many)]
    return [(place - many // 3) * FAR - place for place in range(many)], sorted(ties)


def large_trees():
    return [path_tree(40), star_tree(40, 0), star_tree(40, 17), bushy_tree(40), bushy_tree(23)]


def numbered_anew(tree, order):
    """The tree whose place k is the one that stands at k in the order."""
    ties = [(order.index(a), order.index(b), length) for a, b, length in tree[1]]
    return [tree[0][old] for old in order], sorted((min(a, b), max(a, b), length) for a, b, length in ties)


def large_trees_in_other_orders():
    """The large trees with their places in an order that neither rises nor falls."""
    trees = large_trees()
    return [numbered_anew(tree, [(place * 9 + 4) % len(tree[0]) for place in range(len(tree[0]))]) for tree in trees]


def with_numbers(tree, worths, lengths):
    """The tree with these worths and lengths instead, over and over where there are too few."""
    many = len(tree[0])
    ties = [(a, b, lengths[at % len(lengths)]) for at, (a, b, _) in enumerate(tree[1])]
    return [worths[place % len(worths)] for place in range(many)], ties


def with_lengths_from_nothing_on(tree):
    return tree[0], [(a, b, abs(length)) for a, b, length in tree[1]]


def varied(tree):
    """The tree with its own worths and lengths, and with several other ones."""
    yield tree
    for worths, lengths in (([0], [0]), ([-1], [-1]), ([-2, 3, 0, -1, 1], [0, 3, -1]), ([1, 1, -1], [1]),
                            ([0, 2, -2, 2], [2, 0]), ([3, -FAR, FAR, 0], [FAR, -FAR, 1, 0])):
        yield with_numbers(tree, worths, lengths)


def lists_of_places(tree):
    """Every set of places as a list, rising."""
    places = range(len(tree[0]))
    return [list(some) for many in range(len(places) + 1) for some in itertools.combinations(places, many)]


def are_apart(tree, places):
    return not any(a in places and b in places for a, b, _ in tree[1])


def hang_together(tree, places):
    """Whether the places, one at least, can all be come to from the first through these places alone."""
    reached = places[:1]
    for here in reached:
        reached.extend(near for near in neighbours_by_hand(tree, here) if near in places and near not in reached)
    return bool(places) and len(reached) == len(places)


def sum_of_worths(tree, places):
    return sum(tree[0][place] for place in places)


def lengths_by_hand(tree, seat, before=None):
    """The lengths of the ways from the seat, under the places that they go to."""
    lengths = {seat: 0}
    for near in neighbours_by_hand(tree, seat):
        if near != before:
            on = lengths_by_hand(tree, near, seat)
            lengths.update((place, length_by_hand(tree, seat, near) + length) for place, length in on.items())
    return lengths


def neighbours_by_hand(tree, place):
    return [other for other in range(len(tree[0]))
            if any({a, b} == {place, other} for a, b, _ in tree[1]) and other != place]


def length_by_hand(tree, a, b):
    return next(length for low, high, length in tree[1] if {low, high} == {a, b})


def sum_by_hand(told, own, tie, so, more):
    word, *rest = told
    if word in PAIRS:
        x, y = (sum_by_hand(part, own, tie, so, more) for part in rest)
        return {"plus": x + y, "less": x - y, "times": x * y,
                "most": x if x > y else y, "least": x if x < y else y}[word]
    return {"number": lambda: rest[0], "own": lambda: own, "tie": lambda: tie,
            "so": lambda: so[rest[0]], "more": lambda: more[rest[0]]}[word]()


def place_row_by_hand(tree, rule, place, but):
    begin, _, join, _ = rule
    own = tree[0][place]
    row = [sum_by_hand(part, own, None, None, None) for part in begin]
    for near in neighbours_by_hand(tree, place):
        if near != but:
            more = branch_row_by_hand(tree, rule, place, near)
            row = [sum_by_hand(part, own, None, row, more) for part in join]
    return row


def branch_row_by_hand(tree, rule, a, b):
    more = place_row_by_hand(tree, rule, b, a)
    return [sum_by_hand(part, tree[0][b], length_by_hand(tree, a, b), None, more) for part in rule[1]]


def branches_by_hand(tree):
    pairs = [(a, b) for a, b, _ in tree[1]]
    return sorted(pairs + [(b, a) for a, b in pairs])


def part_by_hand(tree, a, b):
    """The places that are come to from b without going over the tie to a."""
    ties = [pair for pair in branches_by_hand(tree) if pair not in ((a, b), (b, a))]
    part = [b]
    for here in part:
        part.extend(other for one, other in ties if one == here and other not in part)
    return part


def rows_by_hand(tree, rule):
    return [((a, b), branch_row_by_hand(tree, rule, a, b)) for a, b in branches_by_hand(tree)]


def seat_by_hand(tree, rule, place):
    return sum_by_hand(rule[3], tree[0][place], None, place_row_by_hand(tree, rule, place, None), None)


def seats_by_hand(tree, rule):
    return [seat_by_hand(tree, rule, place) for place in range(len(tree[0]))]


def tree_with_worth(tree, place, worth):
    return [worth if at == place else old for at, old in enumerate(tree[0])], list(tree[1])


def tree_with_length(tree, a, b, length):
    return list(tree[0]), [(low, high, length if {low, high} == {a, b} else old) for low, high, old in tree[1]]


def tree_with_move(tree, a, b, c, d, length):
    """The worths and sorted ties that come of it, be they a tree or not."""
    left = [tie for tie in tree[1] if set(tie[:2]) != {a, b}]
    return list(tree[0]), sorted(left + [(min(c, d), max(c, d), length)])


def numbers_in_turn(seed):
    """Numbers without an order that can be seen, the same ones each time."""
    state = seed
    while True:
        state = (state * 6364136223846793005 + 1442695040888963407) % 2 ** 64
        yield state // 2 ** 33


def holding_place(tree, place):
    """The branches that hold the change of a worth; below, of a length and of a move."""
    return [(a, b) for a, b in branches_by_hand(tree) if place in part_by_hand(tree, a, b)]


def holding_tie(tree, one, other):
    return [(a, b) for a, b in branches_by_hand(tree)
            if {a, b} == {one, other} or {one, other} <= set(part_by_hand(tree, a, b))]


def holding_any(tree, places):
    return [(a, b) for a, b in branches_by_hand(tree) if set(places) & set(part_by_hand(tree, a, b))]


def changes_in_turn(tree, turn, many):
    """Changes one behind the other: what to call, with which numbers, the changed tree, and the branches due."""
    for _ in range(many):
        kind, number, worth = next(turn) % 3, next(turn), next(turn) % 31 - 10
        a, b = branches_by_hand(tree)[number % (2 * len(tree[1]))]
        sides = [part_by_hand(tree, a, b), part_by_hand(tree, b, a)]
        c, d = [side[next(turn) % len(side)] for side in sides]
        if kind == 0:
            tree = tree_with_worth(tree, a, worth)
            yield "set_worth", (a, worth), tree, holding_place(tree, a)
        elif kind == 1:
            tree = tree_with_length(tree, a, b, worth)
            yield "set_length", (a, b, worth), tree, holding_tie(tree, a, b)
        else:
            tree = tree_with_move(tree, a, b, c, d, worth)
            yield "move", (a, b, c, d, worth), tree, holding_any(tree, [a, b, c, d])


def refusal_of_length(tree, a, b):
    """The name of the refusal that is due where the length of a tie is set; below, where one is moved."""
    places = range(len(tree[0]))
    if a not in places or b not in places:
        return "NoPlace"
    return None if b in neighbours_by_hand(tree, a) else "NoTie"


def refusal_of_move(tree, a, b, c, d):
    if refusal_of_length(tree, a, b) == "NoPlace" or refusal_of_length(tree, c, d) == "NoPlace":
        return "NoPlace"
    if refusal_of_length(tree, a, b) or c == d:
        return "NoTie"
    changed = tree_with_move(tree, a, b, c, d, 1)
    return None if hang_together(changed, list(range(len(tree[0])))) else "NoTree"


NUMBER_FORM = "(?:0|-?[1-9][0-9]*)"
PLACE_FORM = "(?:0|[1-9][0-9]*)"
TIE_FORM = f"{PLACE_FORM}-{PLACE_FORM}:{NUMBER_FORM}"
TREE_FORM = f"{NUMBER_FORM}(?: {NUMBER_FORM})*\n(?:{TIE_FORM}(?: {TIE_FORM})*)?"
SINGLE_FORM = f"(?<![^ (])(?:own|tie|(?:so|more){PLACE_FORM}|{NUMBER_FORM})(?![^ ),;])"
RULE_FORM = "begin X(?:, X)*; over X(?:, X)*; join X(?:, X)*; told X"


def refusal_of_tree_text(text):
    """The name of the refusal that is due of a text that is to write a tree; None where it writes one."""
    if not re.fullmatch(TREE_FORM, text):
        return "NoText"
    worths, ties = (row.split() for row in text.split("\n"))
    ties = [tuple(map(int, re.fullmatch("(.*?)-(.*?):(.*)", tie).groups())) for tie in ties]
    if ties != sorted(ties):
        return "NoText"
    rising = all(a < b < len(worths) for a, b, _ in ties)
    together = rising and hang_together((worths, ties), list(range(len(worths))))
    return None if together and len(ties) == len(worths) - 1 else "NoTree"


def refusal_of_rule_text(text):
    """The same of a text that is to write a rule."""
    bare, shorter = None, "none" if "X" in text else re.sub(SINGLE_FORM, "X", text)
    while bare != shorter:
        bare, shorter = shorter, re.sub(r"\(X (?:\+|-|\*|max|min) X\)", "X", shorter)
    if not re.fullmatch(RULE_FORM, bare):
        return "NoText"
    parts = text.split("; ")
    many = [part.count(", ") + 1 for part in parts]
    words = [{word for word in re.findall("[a-z]+[0-9]*", part) if word not in ("max", "min")} for part in parts]
    row = range(min(many[0], 3))
    so, more = {f"so{i}" for i in row}, {f"more{i}" for i in row}
    let = [{"begin", "own"}, {"over", "own", "tie"} | more, {"join", "own"} | so | more, {"told", "own"} | so]
    well_told = all(found <= some for found, some in zip(words, let))
    return None if well_told and many[0] == many[1] == many[2] <= 3 else "NoRule"


def near_texts(text, signs):
    """All texts that have one sign more, fewer or another one than this."""
    for at in range(len(text) + 1):
        yield from (text[:at] + sign + text[at:] for sign in signs)
    for at in range(len(text)):
        yield text[:at] + text[at + 1:]
        yield from (text[:at] + sign + text[at + 1:] for sign in signs if sign != text[at])


# The row's figures stand one behind the other in the order in which neighbours are joined.
FIGURES = ([OWN], [MORE0], [("plus", ("times", SO0, number(10)), MORE0)], SO0)

# The sum of the lengths of all ways, and how many places there are.
WAYS = ([number(0), number(1)],
        [("plus", MORE0, ("times", TIE, MORE1)), MORE1],
        [("plus", SO0, MORE0), ("plus", SO1, MORE1)],
        SO0)

# The greatest length of a way from the seat.
FARTHEST = ([number(0)], [("plus", MORE0, TIE)], [("most", SO0, MORE0)], SO0)

# Every word that may stand in each list, and an outcome that hangs on the order of the neighbours.
MIXED = ([OWN, ("less", number(5), OWN), ("times", OWN, number(-2))],
         [("less", MORE1, TIE), ("plus", ("more", 2), OWN), ("most", MORE0, ("times", TIE, number(2)))],
         [("less", ("more", 1), SO0), ("plus", SO0, ("least", ("so", 2), MORE0)),
          ("most", ("plus", ("so", 1), ("more", 2)), ("less", OWN, SO0))],
         ("plus", ("times", SO0, number(3)), ("less", ("so", 2), ("least", OWN, SO1))))

# Every new number is an old one of another place: wrong as soon as one is reckoned from a new one.
EXCHANGED = ([number(1), OWN],
             [("plus", MORE1, TIE), MORE0],
             [("plus", SO1, MORE0), ("less", SO0, MORE1)],
             ("less", ("times", number(1000), SO0), SO1))

RULES = [FIGURES, WAYS, FARTHEST, MIXED, EXCHANGED]

# What is no rule, each for another reason.
NO_RULES = [([TIE], [OWN], [OWN], OWN),
            ([OWN], [SO0], [OWN], OWN),
            ([OWN], [OWN], [TIE], OWN),
            ([OWN], [OWN], [OWN], MORE0),
            ([OWN], [("more", -1)], [OWN], OWN),
            ([OWN], [OWN], [("plus", SO0, SO1)], OWN),
            ([OWN], [OWN, OWN], [OWN], OWN),
            ([], [], [], OWN),
            ([OWN] * 4, [OWN] * 4, [OWN] * 4, OWN)]
