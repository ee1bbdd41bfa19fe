"""Rules: what a place is worth as the root, told by sums."""

from everyseat.errors import NoRule

MOST_NUMBERS = 3
PAIRS = ("plus", "less", "times", "most", "least")
NUMBERED = ("so", "more")

IN_BEGIN = ("own",)
IN_OVER = ("own", "tie", "more")
IN_JOIN = ("own", "so", "more")
IN_TOLD = ("own", "so")


def parts_within(sum_told):
    """The sum and all sums within it, each ahead of its own two, the first of these ahead of the second.

    A list and no calls within calls, so that it does not matter how deep sums stand in one another.
    """
    waiting = [sum_told]
    parts = []
    while waiting:
        part = waiting.pop()
        parts.append(part)
        if part[0] in PAIRS:
            waiting.extend([part[2], part[1]])
    return parts


def part_may_stand(part, words, many):
    """Whether one sum, whatever is within it, may stand where these words may and rows have so many numbers."""
    word = part[0]
    if word == "number" or word in PAIRS:
        return True
    if word in NUMBERED and not 0 <= part[1] < many:
        return False
    return word in words


def sums_may_stand(sums, words, many):
    """Whether these sums, with all that is within them, may stand there."""
    return all([part_may_stand(part, words, many) for one in sums for part in parts_within(one)])


def is_rule(thing):
    """Whether three lists of sums and one sum are a rule."""
    begin, over, join, told = thing
    many = len(begin)
    if not 1 <= many <= MOST_NUMBERS or len(over) != many or len(join) != many:
        return False
    listed = [(begin, IN_BEGIN), (over, IN_OVER), (join, IN_JOIN), ([told], IN_TOLD)]
    return all([sums_may_stand(sums, words, many) for sums, words in listed])


def need_rule(rule):
    """Refuses what is no rule."""
    if not is_rule(rule):
        raise NoRule("these sums make no rule")


def copied_rule(rule):
    """The same rule in lists of its own."""
    begin, over, join, told = rule
    return list(begin), list(over), list(join), told


def pair_at(word, x, y):
    """What a sum of two is, by its word."""
    if word == "plus":
        return x + y
    if word == "less":
        return x - y
    if word == "times":
        return x * y
    if word == "most":
        return max(x, y)
    return min(x, y)


def single_at(part, own, tie, so, more):
    """What a sum with no sums within it is."""
    word = part[0]
    if word == "own":
        return own
    if word == "tie":
        return tie
    if word == "so":
        return so[part[1]]
    if word == "more":
        return more[part[1]]
    return part[1]


def sum_at(sum_told, own, tie, so, more):
    """What a sum is for these numbers."""
    reckoned = []
    # From behind, both sums within a sum are reckoned when it is its turn, the first one last.
    for part in reversed(parts_within(sum_told)):
        if part[0] in PAIRS:
            x = reckoned.pop()
            y = reckoned.pop()
            reckoned.append(pair_at(part[0], x, y))
        else:
            reckoned.append(single_at(part, own, tie, so, more))
    return reckoned.pop()
