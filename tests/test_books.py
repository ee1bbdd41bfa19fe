"""Points 21, 22 and 23: books, and points 2 and 3 as far as they speak of them."""

import copy
import itertools
import unittest
from unittest import mock

from everyseat import books
from everyseat.books import Book
from everyseat.seats import all_rows, all_seats
from tests.helper import (
    EXCHANGED, FAR, FARTHEST, FIGURES, MIXED, NO_RULES, RULES, WAYS, SeatCase, all_trees, branches_by_hand, bushy_tree,
    changes_in_turn, holding_any, holding_place, holding_tie, large_trees, large_trees_in_other_orders, lists_in,
    neighbours_by_hand, numbers_in_turn, path_tree, refusal_of_length, refusal_of_move, rows_by_hand, seats_by_hand,
    star_tree, tree_with_length, tree_with_move, tree_with_worth, varied)

# Place 1 is tied to all others: lengths 10, 3 and 4.
TREE = ([5, 0, 7, 2], [(0, 1, 10), (1, 2, 3), (1, 3, 4)])
ALONE = ([6], [])


def either_way_about(a, b, c, d):
    return [(a, b, c, d), (b, a, c, d), (a, b, d, c), (b, a, d, c)]


class BookCase(SeatCase):
    def is_of(self, book, tree, rule):
        """Sees that a book tells what is reckoned by hand of this tree."""
        self.tells(tree, book.tree_now)
        self.tells(rows_by_hand(tree, rule), book.rows)
        seats = seats_by_hand(tree, rule)
        self.tells(seats, book.seats)
        for place, worth in enumerate(seats):
            self.tells(worth, book.seat, place)

    def is_as_new(self, book, tree, rule):
        """The same for trees that are too large for it: rows and seats are tested by hand elsewhere."""
        self.same(book.tree_now(), tree)
        self.same(book.rows(), all_rows(tree, rule))
        self.same(book.seats(), all_seats(tree, rule))


class Asked(BookCase):
    def test_a_book_tells_its_tree_rows_and_seats(self):
        book = Book(TREE, FARTHEST)
        self.tells(TREE, book.tree_now)
        self.tells([14, 10, 13, 14], book.seats)
        self.tells(13, book.seat, 2)
        self.tells([((0, 1), [14]), ((1, 0), [10]), ((1, 2), [3]), ((1, 3), [4]), ((2, 1), [13]), ((3, 1), [14])],
                   book.rows)

    def test_a_book_of_one_place(self):
        book = Book(ALONE, FIGURES)
        self.tells(ALONE, book.tree_now)
        self.tells([6], book.seats)
        self.tells(6, book.seat, 0)
        self.tells([], book.rows)

    def test_every_small_tree_by_hand(self):
        for tree in all_trees(4):
            for rule in RULES:
                self.is_of(Book(tree, rule), tree, rule)

    def test_large_trees(self):
        for tree in large_trees() + large_trees_in_other_orders():
            for rule in (EXCHANGED, MIXED):
                self.is_as_new(Book(tree, rule), tree, rule)

    def test_a_number_that_is_no_place(self):
        for tree in (ALONE, TREE):
            book = Book(tree, WAYS)
            for place in (-FAR, -2, -1, len(tree[0]), len(tree[0]) + 1, FAR):
                self.refuses("NoPlace", book.seat, place)
            self.is_of(book, tree, WAYS)

    def test_no_book_is_made_of_what_is_no_rule(self):
        for rule in NO_RULES:
            self.refuses("NoRule", Book, TREE, rule)
            self.refuses("NoRule", Book, ALONE, rule)


class WorthSet(BookCase):
    def test_a_worth_is_set(self):
        book = Book(TREE, FIGURES)
        self.same(book.set_worth(2, -8), [(0, 1), (1, 2), (3, 1)])
        self.is_of(book, ([5, 0, -8, 2], TREE[1]), FIGURES)
        self.same(book.set_worth(1, 9), [(0, 1), (2, 1), (3, 1)])
        self.is_of(book, ([5, 9, -8, 2], TREE[1]), FIGURES)

    def test_in_a_tree_of_one_place_no_branch_is_told(self):
        book = Book(ALONE, FIGURES)
        self.same(book.set_worth(0, -FAR), [])
        self.is_of(book, ([-FAR], []), FIGURES)

    def test_every_place_of_every_small_tree(self):
        for tree in all_trees(4):
            for rule in (MIXED, FIGURES):
                for place in range(len(tree[0])):
                    book = Book(tree, rule)
                    self.same(book.set_worth(place, 50), holding_place(tree, place))
                    self.is_of(book, tree_with_worth(tree, place, 50), rule)

    def test_every_place_of_large_trees(self):
        for tree in large_trees() + large_trees_in_other_orders():
            book = Book(tree, FIGURES)
            for place in range(len(tree[0])):
                self.same(book.set_worth(place, place - 3), holding_place(tree, place))
            self.is_as_new(book, ([place - 3 for place in range(len(tree[0]))], tree[1]), FIGURES)

    def test_a_worth_put_to_what_it_is_is_told_as_any(self):
        book = Book(TREE, MIXED)
        for place in range(4):
            self.same(book.set_worth(place, TREE[0][place]), holding_place(TREE, place))
            self.is_of(book, TREE, MIXED)

    def test_a_number_that_is_no_place(self):
        for tree in (ALONE, TREE):
            book = Book(tree, FIGURES)
            for place in (-FAR, -2, -1, len(tree[0]), len(tree[0]) + 1, FAR):
                self.refuses("NoPlace", book.set_worth, place, 3)
                self.is_of(book, tree, FIGURES)


class LengthSet(BookCase):
    def test_a_length_is_set_either_way_about(self):
        for a, b in ((1, 2), (2, 1)):
            book = Book(TREE, WAYS)
            self.same(book.set_length(a, b, -6), [(0, 1), (1, 2), (2, 1), (3, 1)])
            self.is_of(book, (TREE[0], [(0, 1, 10), (1, 2, -6), (1, 3, 4)]), WAYS)

    def test_every_tie_of_every_small_tree(self):
        for tree in all_trees(4):
            for rule in (MIXED, WAYS):
                for a, b in branches_by_hand(tree):
                    book = Book(tree, rule)
                    self.same(book.set_length(a, b, 70), holding_tie(tree, a, b))
                    self.is_of(book, tree_with_length(tree, a, b, 70), rule)

    def test_every_tie_of_large_trees(self):
        for tree in large_trees() + large_trees_in_other_orders():
            book = Book(tree, WAYS)
            changed = tree
            for at, (a, b, _) in enumerate(tree[1]):
                pair = (a, b) if at % 2 else (b, a)
                self.same(book.set_length(*pair, at - 5), holding_tie(tree, a, b))
                changed = tree_with_length(changed, a, b, at - 5)
            self.is_as_new(book, changed, WAYS)

    def test_a_length_put_to_what_it_is_is_told_as_any(self):
        book = Book(TREE, MIXED)
        for a, b, length in TREE[1]:
            self.same(book.set_length(b, a, length), holding_tie(TREE, a, b))
            self.is_of(book, TREE, MIXED)

    def test_refusals_with_any_two_numbers(self):
        for tree in all_trees(4):
            book = Book(tree, WAYS)
            for a, b in itertools.product(range(-2, len(tree[0]) + 2), repeat=2):
                if refusal_of_length(tree, a, b):
                    self.refuses(refusal_of_length(tree, a, b), book.set_length, a, b, 3)
                    self.same(book.tree_now(), tree)
            self.is_of(book, tree, WAYS)

    def test_no_place_goes_ahead_of_no_tie(self):
        book = Book(TREE, WAYS)
        for a, b in ((4, 4), (-1, -1), (0, -1), (4, 0), (0, FAR)):
            self.refuses("NoPlace", book.set_length, a, b, 3)
        for a, b in ((0, 0), (1, 1), (0, 2), (3, 0)):
            self.refuses("NoTie", book.set_length, a, b, 3)
        self.refuses("NoTie", Book(ALONE, WAYS).set_length, 0, 0, 3)
        self.refuses("NoPlace", Book(ALONE, WAYS).set_length, 0, 1, 3)
        self.is_of(book, TREE, WAYS)


class Moved(BookCase):
    def test_a_tie_is_moved_either_way_about(self):
        for a, b, c, d in either_way_about(1, 2, 0, 2):
            book = Book(TREE, WAYS)
            self.same(book.move(a, b, c, d, 8), [(0, 1), (0, 2), (1, 0), (2, 0), (3, 1)])
            self.is_of(book, (TREE[0], [(0, 1, 10), (0, 2, 8), (1, 3, 4)]), WAYS)

    def test_just_the_branches_without_the_four_places_are_left(self):
        # In the row 0 1 2 3 4 5 the end is cut off and laid at the other end.
        book = Book(path_tree(6), FIGURES)
        told = book.move(4, 5, 0, 5, 2)
        self.same(told, [(0, 1), (0, 5), (1, 0), (1, 2), (2, 1), (2, 3), (3, 2), (3, 4), (4, 3), (5, 0)])
        # In a row of four with a star at its end, what hangs at the star is left.
        tree = ([1, 2, 3, 4, 5, 6], [(0, 1, 1), (1, 2, 1), (2, 3, 1), (3, 4, 1), (3, 5, 1)])
        book = Book(tree, FIGURES)
        self.same(book.move(0, 1, 0, 2, 1), [(0, 2), (1, 2), (2, 0), (2, 1), (3, 2), (4, 3), (5, 3)])
        self.is_of(book, tree_with_move(tree, 0, 1, 0, 2, 1), FIGURES)

    def test_every_move_in_every_small_tree(self):
        for tree in all_trees(4):
            for a, b, c, d in itertools.product(range(len(tree[0])), repeat=4):
                if a > b or c > d or refusal_of_move(tree, a, b, c, d):
                    continue
                for numbers in either_way_about(a, b, c, d):
                    changed = tree_with_move(tree, a, b, c, d, 33)
                    book = Book(tree, EXCHANGED)
                    self.same(book.move(*numbers, 33), holding_any(changed, numbers))
                    self.same(book.rows(), rows_by_hand(changed, EXCHANGED))
                    self.same(book.tree_now(), changed)
                self.is_of(book, changed, EXCHANGED)

    def test_a_tie_laid_where_it_was(self):
        for a, b, old in TREE[1]:
            for length in (old, old + 1, 0, -FAR):
                for numbers in either_way_about(a, b, a, b):
                    book = Book(TREE, MIXED)
                    self.same(book.move(*numbers, length), holding_any(TREE, [a, b]))
                    self.is_of(book, tree_with_length(TREE, a, b, length), MIXED)

    def test_refusals_with_any_four_numbers(self):
        for tree in all_trees(4):
            many = len(tree[0])
            around = range(-1, many + 1) if many < 4 else range(many)
            book = Book(tree, EXCHANGED)
            seen = set()
            for numbers in itertools.product(around, repeat=4):
                refusal = refusal_of_move(tree, *numbers)
                if refusal:
                    self.refuses(refusal, book.move, *numbers, 3)
                    self.same(book.tree_now(), tree)
                    seen.add(refusal)
            self.is_of(book, tree, EXCHANGED)
            if many == 4:
                self.assertEqual(seen, {"NoTie", "NoTree"})

    def test_each_refusal_alone(self):
        book = Book(TREE, WAYS)
        # Places 0 and 2 beyond, one after the other.
        for numbers in ((-1, 1, 0, 2), (0, 4, 0, 2), (0, 1, -1, 2), (0, 1, 0, 4), (0, FAR, 0, 2), (0, 1, -FAR, 2)):
            self.refuses("NoPlace", book.move, *numbers, 3)
        # 0 and 2 are not tied; 3 and 3 are one.
        for numbers in ((0, 2, 0, 3), (2, 0, 3, 0), (0, 1, 3, 3), (1, 0, 0, 0)):
            self.refuses("NoTie", book.move, *numbers, 3)
        # 0 would hang nowhere; 1 and 3 are tied already.
        for numbers in ((0, 1, 2, 3), (1, 0, 3, 2), (0, 1, 1, 3), (0, 1, 3, 1)):
            self.refuses("NoTree", book.move, *numbers, 3)
        self.is_of(book, TREE, WAYS)

    def test_the_order_of_refusals(self):
        book = Book(TREE, WAYS)
        # A place beyond, where nothing is tied either, or one is to be tied to itself.
        for numbers in ((0, 2, 0, 4), (0, 4, 2, 2), (4, 4, 4, 4), (0, 0, -1, 0), (0, 1, 4, 4), (-1, -1, 2, 3)):
            self.refuses("NoPlace", book.move, *numbers, 3)
        # Nothing is tied, or one is to be tied to itself, and no tree would come of it.
        for numbers in ((0, 2, 1, 3), (2, 2, 0, 1), (0, 1, 2, 2), (0, 0, 0, 0), (0, 2, 2, 2)):
            self.refuses("NoTie", book.move, *numbers, 3)
        self.is_of(book, TREE, WAYS)

    def test_in_a_tree_of_one_place_nothing_can_be_moved(self):
        book = Book(ALONE, WAYS)
        self.refuses("NoTie", book.move, 0, 0, 0, 0, 1)
        self.refuses("NoPlace", book.move, 0, 0, 0, 1, 1)
        self.is_of(book, ALONE, WAYS)

    def test_in_a_tree_of_two_places_the_tie_can_be_laid_where_it_was(self):
        tree = ([3, 4], [(0, 1, 5)])
        book = Book(tree, WAYS)
        self.same(book.move(0, 1, 1, 0, 7), [(0, 1), (1, 0)])
        self.is_of(book, ([3, 4], [(0, 1, 7)]), WAYS)


class ChangedOften(BookCase):
    def changes(self, book, seed, many):
        """Makes changes one behind the other, sees what is told of each, and yields each changed tree."""
        for name, numbers, changed, due in changes_in_turn(book.tree_now(), numbers_in_turn(seed), many):
            self.same(getattr(book, name)(*numbers), due)
            yield changed

    def test_small_trees_by_hand(self):
        for seed, tree in enumerate([path_tree(6), star_tree(6, 2), bushy_tree(7)]):
            for rule in (MIXED, FIGURES):
                book = Book(tree, rule)
                for changed in self.changes(book, seed, 25):
                    self.is_of(book, changed, rule)

    def test_large_trees(self):
        for seed, tree in enumerate(large_trees() + large_trees_in_other_orders()):
            book = Book(tree, EXCHANGED)
            for changed in self.changes(book, seed + 100, 15):
                self.is_as_new(book, changed, EXCHANGED)

    def test_refusals_among_changes_change_nothing(self):
        book = Book(bushy_tree(9), MIXED)
        for changed in self.changes(book, 7, 20):
            self.refuses("NoPlace", book.set_worth, 9, 1)
            self.refuses("NoTie", book.set_length, 3, 3, 1)
            a, b, _ = changed[1][0]
            c, d, _ = changed[1][1]
            self.refuses("NoTree", book.move, a, b, c, d, 1)
            self.is_as_new(book, changed, MIXED)

    def test_just_the_told_branches_are_reckoned_anew(self):
        tree = bushy_tree(23)
        a, b, _ = tree[1][4]
        end = neighbours_by_hand(tree, 22)[0]
        changes = [lambda book: book.set_worth(11, 5), lambda book: book.set_length(b, a, 6),
                   lambda book: book.move(a, b, a, b, 7), lambda book: book.move(end, 22, 22, end + 1, 8)]
        for change in changes:
            book = Book(tree, MIXED)
            with mock.patch.object(books, "row_by_rows", wraps=books.row_by_rows) as reckoned:
                told = change(book)
            self.assertEqual(sorted(call.args[2] for call in reckoned.call_args_list), told)
            self.assertLess(len(told), 44)


class TheAskersOwn(BookCase):
    def made(self):
        tree, rule = copy.deepcopy(TREE), copy.deepcopy(MIXED)
        return tree, rule, Book(tree, rule)

    def test_what_was_handed_in_may_be_changed_later(self):
        tree, rule, book = self.made()
        for one in lists_in(tree) + lists_in(rule):
            one.clear()
        self.is_of(book, TREE, MIXED)
        self.same(book.set_worth(0, 9), holding_place(TREE, 0))
        self.is_of(book, ([9, 0, 7, 2], TREE[1]), MIXED)

    def test_what_was_handed_in_stays_as_it_was(self):
        tree, rule, book = self.made()
        book.set_worth(0, 9)
        book.set_length(0, 1, 2)
        book.move(0, 1, 0, 3, 5)
        self.same((tree, rule), (TREE, MIXED))

    def test_what_was_told_may_be_changed(self):
        _, _, book = self.made()
        for change in (lambda: book.set_worth(2, 7), lambda: book.set_length(1, 2, 3),
                       lambda: book.move(1, 2, 1, 2, 3)):
            for told in (book.tree_now(), book.rows(), book.seats(), change()):
                for one in lists_in(told):
                    one.clear()
            self.is_of(book, TREE, MIXED)

    def test_what_was_told_stays_as_it_was(self):
        _, _, book = self.made()
        told = [book.tree_now(), book.rows(), book.seats(), book.set_worth(2, 7), book.set_length(1, 2, 3)]
        before = copy.deepcopy(told)
        book.set_worth(0, 9)
        book.move(0, 1, 0, 3, 5)
        self.same(told, before)

    def test_two_books_know_nothing_of_one_another(self):
        tree, rule, one = self.made()
        other = Book(tree, rule)
        third = Book(one.tree_now(), FIGURES)
        one.set_worth(0, 9)
        one.move(0, 1, 0, 3, 5)
        self.is_of(other, TREE, MIXED)
        self.is_of(third, TREE, FIGURES)
        other.set_length(1, 3, 8)
        self.is_of(one, ([9, 0, 7, 2], [(0, 3, 5), (1, 2, 3), (1, 3, 4)]), MIXED)

    def test_what_a_book_tells_may_be_handed_in(self):
        _, _, book = self.made()
        book.move(0, 1, 0, 3, 5)
        self.same(Book(book.tree_now(), MIXED).rows(), book.rows())

    def test_each_method_stands_in_the_class_itself(self):
        for name in ("tree_now", "seat", "seats", "rows", "set_worth", "set_length", "move"):
            self.assertIn(name, vars(Book))

    def test_worths_and_lengths_of_all_sizes(self):
        for tree in varied(star_tree(4, 1)):
            book = Book(tree, MIXED)
            for number in (0, -1, FAR, -FAR):
                book.set_worth(3, number)
                book.set_length(1, 3, number)
                tree = tree_with_length(tree_with_worth(tree, 3, number), 1, 3, number)
                self.is_of(book, tree, MIXED)


if __name__ == "__main__":
    unittest.main()
