"""Points 1 to 4 over the whole program, and the interface."""

import importlib
import inspect
import unittest

from everyseat.books import Book
from everyseat.branches import branch_row, seat_worth
from everyseat.desk import Desk
from everyseat.middles import balance, far_table, hub, middle
from everyseat.named import rule_named, rule_names
from everyseat.papers import first_wrong, paper_shows, seat_by_paper
from everyseat.seats import all_rows, all_seats, best_seats, least_seats
from everyseat.sets import best_piece, best_set, farthest_place, longest_ends
from everyseat.texts import read_rule, read_tree, show_rule, show_tree
from everyseat.trees import turned_tree, way_between
from tests.helper import (
    RULES, SeatCase, all_trees, are_apart, bushy_tree, changes_in_turn, hang_together, large_trees, lists_of_places,
    numbers_in_turn, path_tree, rows_by_hand, seats_by_hand, star_tree, sum_of_worths, varied, with_numbers)

INTERFACE = {
    "trees": {"tree_of": "worths ties", "tied_to": "tree place", "way_between": "tree one other",
              "turned_tree": "tree order"},
    "rules": {"is_rule": "thing", "need_rule": "rule", "sum_at": "sum_told own tie so more"},
    "branches": {"every_branch": "tree", "branch_row": "tree rule branch", "seat_worth": "tree rule place"},
    "seats": {"all_rows": "tree rule", "all_seats": "tree rule", "best_seats": "tree rule", "least_seats": "tree rule"},
    "papers": {"paper_shows": "tree rule paper", "seat_by_paper": "tree rule paper place",
               "first_wrong": "tree rule paper"},
    "named": {"rule_named": "name", "rule_names": ""},
    "sets": {"best_set": "tree", "best_piece": "tree place", "farthest_place": "tree place", "longest_ends": "tree"},
    "books": {"Book": "tree rule"},
    "middles": {"middle": "tree", "hub": "tree", "balance": "tree", "far_table": "tree"},
    "texts": {"show_tree": "tree", "show_rule": "rule", "read_tree": "text", "read_rule": "text"},
    "desk": {"Desk": ""},
}
METHODS = {
    Book: {"tree_now": "", "seat": "place", "seats": "", "rows": "", "set_worth": "place worth",
           "set_length": "a b length", "move": "a b c d length"},
    Desk: {"say": "row"},
}


class Interface(unittest.TestCase):
    def test_every_name_with_its_arguments(self):
        for module, names in INTERFACE.items():
            for name, arguments in names.items():
                thing = getattr(importlib.import_module("everyseat." + module), name)
                self.assertEqual(list(inspect.signature(thing).parameters), arguments.split(), name)

    def test_every_method_with_its_arguments_in_its_own_class(self):
        for own, names in METHODS.items():
            for name, arguments in names.items():
                parameters = list(inspect.signature(vars(own)[name]).parameters)
                self.assertEqual(parameters[1:], arguments.split(), name)


class Whole(SeatCase):
    def test_behind_any_changes_all_agree(self):
        for seed, first in enumerate([path_tree(5), star_tree(6, 3), bushy_tree(7)]):
            for rule in RULES + [rule_named("pieces"), rule_named("best")]:
                book = Book(first, rule)
                for name, numbers, tree, due in changes_in_turn(first, numbers_in_turn(seed), 8):
                    self.same(getattr(book, name)(*numbers), due)
                    self.agree(book, tree, rule)

    def agree(self, book, tree, rule):
        seats = seats_by_hand(tree, rule)
        rows = rows_by_hand(tree, rule)
        new = Book(tree, rule)
        self.same((book.tree_now(), book.rows(), book.seats()), (tree, rows, seats))
        self.same((new.tree_now(), new.rows(), new.seats()), (tree, rows, seats))
        self.same((all_rows(tree, rule), all_seats(tree, rule)), (rows, seats))
        self.assertIs(paper_shows(tree, rule, book.rows()), True)
        self.assertIsNone(first_wrong(tree, rule, book.rows()))
        for place, worth in enumerate(seats):
            self.same((book.seat(place), seat_worth(tree, rule, place)), (worth, worth))
            self.same(seat_by_paper(tree, rule, book.rows(), place), worth)
        for branch, row in rows:
            self.same(branch_row(tree, rule, branch), row)
        self.same(best_seats(tree, rule), [place for place, worth in enumerate(seats) if worth == max(seats)])
        self.same(least_seats(tree, rule), [place for place, worth in enumerate(seats) if worth == min(seats)])

    def test_no_paper_but_the_books_rows_is_let_by(self):
        for tree in [path_tree(4), star_tree(5, 1), bushy_tree(6)]:
            for rule in RULES:
                rows = Book(tree, rule).rows()
                for at, (branch, row) in enumerate(rows):
                    for other in range(len(row)):
                        for more in (1, -1):
                            wrong = list(row)
                            wrong[other] += more
                            paper = rows[:at] + [(branch, wrong)] + rows[at + 1:]
                            self.assertIs(paper_shows(tree, rule, paper), False)
                            self.assertEqual(first_wrong(tree, rule, paper), branch)

    def test_named_rules_sets_and_middles_agree_with_the_ways(self):
        for small in list(all_trees(4)) + [path_tree(6), star_tree(6, 2), bushy_tree(7)]:
            for worths, lengths in (([1, -2, 0, 3], [1, 0, 4]), ([-1], [2]), ([2, 2, -1], [0])):
                tree = with_numbers(small, worths, lengths)
                places = range(len(tree[0]))
                ways = [[way_between(tree, one, other)[1] for other in places] for one in places]
                told = {name: Book(tree, rule_named(name)).seats() for name in rule_names()}
                self.same(far_table(tree), ways)
                self.same(told["farthest"], [max(row) for row in ways])
                self.same(told["sum"], [sum(row) for row in ways])
                self.same(middle(tree), least_seats(tree, rule_named("farthest")))
                self.same(hub(tree), least_seats(tree, rule_named("sum")))
                one, other = longest_ends(tree)
                self.same(ways[one][other], max(told["farthest"]))
                self.same([row[farthest_place(tree, place)] for place, row in enumerate(ways)], told["farthest"])
                self.sets_agree(tree, told)

    def sets_agree(self, tree, told):
        apart = [some for some in lists_of_places(tree) if are_apart(tree, some)]
        pieces = [some for some in lists_of_places(tree) if hang_together(tree, some)]
        self.assertIn(best_set(tree), apart)
        for place in range(len(tree[0])):
            own = [some for some in pieces if place in some]
            piece = best_piece(tree, place)
            self.assertIn(piece, own)
            self.same([told[name][place] for name in rule_names()],
                      [len(apart), sum_of_worths(tree, best_set(tree)), told["farthest"][place],
                       sum_of_worths(tree, piece), len(own), told["sum"][place]])

    def test_where_all_lengths_are_one_the_hub_is_the_balance(self):
        for small in list(all_trees(5)) + large_trees():
            tree = with_numbers(small, [1], [1])
            self.same(hub(tree), balance(tree))

    def test_what_is_written_is_read_to_the_same_and_tells_the_same(self):
        for small in all_trees(3):
            for tree in varied(small):
                for rule in RULES:
                    again = read_tree(show_tree(tree)), read_rule(show_rule(rule))
                    self.same(again, (tree, rule))
                    self.same(Book(*again).rows(), all_rows(tree, rule))

    def test_a_desk_tells_what_a_book_does(self):
        words = {"set_worth": "worth", "set_length": "length", "move": "move"}
        for seed, first in enumerate([path_tree(6), star_tree(7, 3), bushy_tree(8)]):
            for rule in RULES:
                desk, book = Desk(), Book(first, rule)
                desk.say("tree " + show_tree(first).replace("\n", " | "))
                desk.say("rule is " + show_rule(rule))
                for name, numbers, tree, due in changes_in_turn(first, numbers_in_turn(seed + 50), 6):
                    getattr(book, name)(*numbers)
                    self.same(desk.say(" ".join(map(str, [words[name], *numbers]))), f"anew {len(due)}")
                    self.same(desk.say("seats"), " ".join(map(str, book.seats())))
                    self.same(desk.say("top"), " ".join(map(str, best_seats(tree, rule))))
                    self.same(desk.say("tree"), show_tree(tree).replace("\n", " | "))

    def test_a_tree_turned_has_its_middles_turned(self):
        for small in [path_tree(6), star_tree(7, 3), bushy_tree(8)]:
            tree = with_numbers(small, [1, 2], [3, 0, 1])
            order = list(reversed(range(len(tree[0]))))
            turned = turned_tree(tree, order)
            for places in (middle, hub, balance):
                self.same(places(turned), sorted(order.index(place) for place in places(tree)))

    def test_what_is_told_may_be_handed_in(self):
        book = Book(read_tree("1 2 3\n0-1:4 1-2:5"), rule_named("sum"))
        book.move(0, 1, 0, 2, 6)
        tree = book.tree_now()
        self.same(paper_shows(tree, read_rule(show_rule(rule_named("sum"))), book.rows()), True)
        self.same(show_tree(tree), "1 2 3\n0-2:6 1-2:5")
        self.same(far_table(turned_tree(tree, hub(tree) + [0, 1])), [[0, 6, 5], [6, 0, 11], [5, 11, 0]])
        self.same(branch_row(tree, rule_named("sum"), book.set_worth(0, 1)[0]), [5 + 11, 2])


if __name__ == "__main__":
    unittest.main()
