"""The desk: a tree and a rule that are told, changed and asked by rows of text."""

from everyseat.books import Book
from everyseat.errors import NoForm, NoText
from everyseat.named import rule_named
from everyseat.seats import places_worth
from everyseat.texts import read_figures, read_number, read_rule, read_tree, show_number, show_numbers, show_tree
from everyseat.trees import tree_of, way_between

BAR = " | "

# How many places stand behind each word, and how many other numbers behind these.
NUMBERS_DUE = {
    "seat": (1, 0),
    "seats": (0, 0),
    "top": (0, 0),
    "worth": (1, 1),
    "length": (2, 1),
    "move": (4, 1),
    "way": (2, 0),
    "tree": (0, 0),
}


def numbers_behind(word, written):
    """The numbers that are written behind a word."""
    if word not in NUMBERS_DUE:
        raise NoForm("no row begins with this word")
    places, others = NUMBERS_DUE[word]
    if len(written) != places + others:
        raise NoForm("another count of numbers is due behind this word")
    try:
        return [read_figures(one) for one in written[:places]] + [read_number(one) for one in written[places:]]
    except NoText:
        raise NoForm("numbers are due behind this word") from None


def read_tree_row(text):
    """The tree that one row writes."""
    if "\n" in text:
        raise NoText("a line feed stands in a row")
    return read_tree(text.replace(BAR, "\n"))


def read_rule_row(text):
    """The rule that stands behind the word rule: a name, or the rule itself."""
    word, blank, rest = text.partition(" ")
    if word == "is" and blank:
        return read_rule(rest)
    if text.split() != [text]:
        raise NoForm("a name is one word")
    return rule_named(text)


class Desk:
    """Holds one tree and one rule; either can be told anew while the other stays."""

    def __init__(self):
        self.rule = rule_named("farthest")
        self.book = Book(tree_of([0], []), self.rule)

    def say(self, row):
        """The answer to a row."""
        if not isinstance(row, str):
            raise NoForm("a row is a text")
        word, blank, text = row.partition(" ")
        if word == "tree" and blank:
            return self.take(read_tree_row(text), self.rule)
        if word == "rule":
            return self.take(self.book.tree_now(), read_rule_row(text))
        return self.answer(word, numbers_behind(word, text.split(" ") if blank else []))

    def take(self, tree, rule):
        """Begins a new book."""
        self.book = Book(tree, rule)
        self.rule = rule
        return "ok"

    def answer(self, word, numbers):
        """The answer to a word that asks, or that changes the tree, and to its numbers."""
        if word == "seat":
            return show_number(self.book.seat(numbers[0]))
        if word == "seats":
            return show_numbers(self.book.seats())
        if word == "top":
            return self.top_seats()
        if word == "way":
            return self.way_shown(numbers)
        if word == "tree":
            return show_tree(self.book.tree_now()).replace("\n", BAR)
        return "anew " + show_number(len(self.changed(word, numbers)))

    def top_seats(self):
        """The best seats as a text."""
        seats = self.book.seats()
        return show_numbers(places_worth(seats, max(seats)))

    def way_shown(self, numbers):
        """A way and its length as a text."""
        one, other = numbers
        places, length = way_between(self.book.tree_now(), one, other)
        return show_numbers(places) + ": " + show_number(length)

    def changed(self, word, numbers):
        """The branches that are reckoned anew by a change."""
        if word == "worth":
            return self.book.set_worth(*numbers)
        if word == "length":
            return self.book.set_length(*numbers)
        return self.book.move(*numbers)
