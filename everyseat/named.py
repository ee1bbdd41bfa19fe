"""Named rules: what they tell can be said in plain words."""

from everyseat.errors import NoName
from everyseat.rules import copied_rule

# A part is what a place and the branches that are joined to it hold.
RULES = {
    # The greatest length of a way from the place into its part.
    "farthest": (
        (("number", 0),),
        (("plus", ("more", 0), ("tie",)),),
        (("most", ("so", 0), ("more", 0)),),
        ("so", 0),
    ),
    # The sum of the lengths of the ways into the part, and how many places it has: each way goes over the tie.
    "sum": (
        (("number", 0), ("number", 1)),
        (("plus", ("more", 0), ("times", ("more", 1), ("tie",))), ("more", 1)),
        (("plus", ("so", 0), ("more", 0)), ("plus", ("so", 1), ("more", 1))),
        ("so", 0),
    ),
    # How many sets of the part are without the place, and how many with it; of a branch, how many may stand
    # beside one without the place before it, and beside one with that place.
    "apart": (
        (("number", 1), ("number", 1)),
        (("plus", ("more", 0), ("more", 1)), ("more", 0)),
        (("times", ("so", 0), ("more", 0)), ("times", ("so", 1), ("more", 1))),
        ("plus", ("so", 0), ("so", 1)),
    ),
    # The greatest sums of the same sets.
    "best": (
        (("number", 0), ("own",)),
        (("most", ("more", 0), ("more", 1)), ("more", 0)),
        (("plus", ("so", 0), ("more", 0)), ("plus", ("so", 1), ("more", 1))),
        ("most", ("so", 0), ("so", 1)),
    ),
    # The greatest sum of a piece of the part with the place in it; a branch may be left out.
    "piece": (
        (("own",),),
        (("most", ("more", 0), ("number", 0)),),
        (("plus", ("so", 0), ("more", 0)),),
        ("so", 0),
    ),
    # How many such pieces there are; a branch adds the one choice to leave it out.
    "pieces": (
        (("number", 1),),
        (("plus", ("more", 0), ("number", 1)),),
        (("times", ("so", 0), ("more", 0)),),
        ("so", 0),
    ),
}


def rule_named(name):
    """The rule that has this name."""
    if name not in RULES:
        raise NoName("no rule has this name")
    return copied_rule(RULES[name])


def rule_names():
    """The names of all rules, sorted."""
    return sorted(RULES)
