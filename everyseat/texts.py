"""Texts: trees and rules written, and read to the same."""

from everyseat.errors import NoText
from everyseat.rules import NUMBERED, need_rule
from everyseat.trees import tree_of

FIGURES = "0123456789"
HEADS = ("begin ", "over ", "join ", "told ")
WORDS = {"+": "plus", "-": "less", "*": "times", "max": "most", "min": "least"}


def show_number(number):
    """A number in figures."""
    left = abs(number)
    pieces = []
    # Python writes numbers of some thousand figures only by pieces.
    while left >= 10 ** 64:
        left, piece = divmod(left, 10 ** 64)
        pieces.append(str(piece).zfill(64))
    pieces.append(str(left))
    figures = "".join(reversed(pieces))
    return "-" + figures if number < 0 else figures


def show_numbers(numbers):
    """Numbers with blanks between."""
    return " ".join([show_number(number) for number in numbers])


def show_tree(tree):
    """A tree as a text."""
    worths, ties = tree
    shown = [f"{show_number(a)}-{show_number(b)}:{show_number(length)}" for a, b, length in ties]
    return show_numbers(worths) + "\n" + " ".join(shown)


def show_single(part):
    """A sum with no sums within it as a text."""
    word = part[0]
    if word == "number":
        return show_number(part[1])
    if word in NUMBERED:
        return word + show_number(part[1])
    return word


def show_sum(sum_told):
    """A sum as a text."""
    signs = {word: sign for sign, word in WORDS.items()}
    waiting = [sum_told]
    shown = []
    # What is still to be shown, the first one last: no calls within calls, however deep sums stand in one another.
    while waiting:
        part = waiting.pop()
        if isinstance(part, str):
            shown.append(part)
        elif part[0] in signs:
            waiting.extend([")", part[2], f" {signs[part[0]]} ", part[1], "("])
        else:
            shown.append(show_single(part))
    return "".join(shown)


def show_sums(sums):
    """The sums of a list as a text."""
    return ", ".join([show_sum(one) for one in sums])


def show_rule(rule):
    """A rule as a text."""
    need_rule(rule)
    begin, over, join, told = rule
    parts = [show_sums(begin), show_sums(over), show_sums(join), show_sum(told)]
    return "; ".join([head + part for head, part in zip(HEADS, parts)])


def read_figures(word):
    """The number, not below 0, that a word writes."""
    if word == "" or not all([sign in FIGURES for sign in word]):
        raise NoText("figures are due")
    if word.startswith("0") and word != "0":
        raise NoText("a 0 stands ahead of figures")
    number = 0
    # Python reads numbers of some thousand figures only by pieces.
    for sign in word:
        number = number * 10 + int(sign)
    return number


def read_number(word):
    """The number that a word writes."""
    if not word.startswith("-"):
        return read_figures(word)
    number = -read_figures(word[1:])
    if number == 0:
        raise NoText("a - stands ahead of 0")
    return number


def read_tie(word):
    """The tie that a word writes."""
    places, colon, length = word.partition(":")
    a, line, b = places.partition("-")
    return read_figures(a), read_figures(b), read_number(length)


def read_tree(text):
    """The tree that a text writes."""
    rows = text.split("\n")
    if len(rows) != 2:
        raise NoText("a tree is written in two rows")
    worths = [read_number(word) for word in rows[0].split(" ")]
    ties = [read_tie(word) for word in rows[1].split(" ")] if rows[1] else []
    if ties != sorted(ties):
        raise NoText("the ties do not stand sorted")
    return tree_of(worths, ties)


def read_single(word):
    """The sum with no sums within it that a word writes."""
    if word in ("own", "tie"):
        return (word,)
    for head in NUMBERED:
        if word.startswith(head):
            return (head, read_figures(word[len(head):]))
    return ("number", read_number(word))


def put_aside(waiting, part, sign):
    """Lets the last open bracket wait with its first sum and the word of its sign."""
    if sign not in WORDS or not waiting or waiting[-1] is not None:
        raise NoText("a sign of two sums stands just between the two of a bracket")
    waiting[-1] = (WORDS[sign], part)


def closed_pair(waiting, part):
    """The sum of two that is whole with this second one, when the last open bracket is closed."""
    if not waiting or waiting[-1] is None:
        raise NoText("a bracket is closed that does not hold two sums")
    word, first = waiting.pop()
    return (word, first, part)


def read_operand(waiting, word):
    """The sum that is whole at the end of a word: brackets that open, a sum with none within it, some that close."""
    opened = word.lstrip("(")
    waiting.extend([None] * (len(word) - len(opened)))
    single = opened.rstrip(")")
    part = read_single(single)
    for bracket in opened[len(single):]:
        part = closed_pair(waiting, part)
    return part


def read_sum(text):
    """The sum that a text writes."""
    # The open brackets, outermost first: None, or the word and the first sum where those were read. No calls within
    # calls, however many brackets there are.
    waiting = []
    part = None
    for at, word in enumerate(text.split(" ")):
        # Blanks stand just before and behind a sign of two sums.
        if at % 2 == 1:
            put_aside(waiting, part, word)
        else:
            part = read_operand(waiting, word)
    if waiting:
        raise NoText("a bracket is not closed")
    return part


def read_sums(text):
    """The list of sums that a text writes."""
    return [read_sum(one) for one in text.split(", ")]


def read_rule(text):
    """The rule that a text writes."""
    parts = text.split("; ")
    if len(parts) != len(HEADS) or not all([part.startswith(head) for part, head in zip(parts, HEADS)]):
        raise NoText("a rule is written in four parts")
    begin, over, join, told = [part[len(head):] for part, head in zip(parts, HEADS)]
    rule = (read_sums(begin), read_sums(over), read_sums(join), read_sum(told))
    need_rule(rule)
    return rule
