"""Points 14, 15 and 16, with 2, 3, 4 and 8: papers, and what is told by them."""

import copy
import itertools
import unittest

from everyseat.papers import first_wrong, paper_shows, seat_by_paper
from everyseat.seats import all_rows, all_seats
from tests.helper import (
    FAR, FARTHEST, FIGURES, MIXED, MORE0, NO_RULES, RULES, SO0, WAYS, SeatCase, all_trees, large_trees,
    large_trees_in_other_orders, length_by_hand, neighbours_by_hand, number, rows_by_hand, star_tree, sum_by_hand,
)

# 3 - 1 - 0 - 2, and 4 at 1
FORK = ([1, 2, 3, 4, 5], [(0, 1, 10), (0, 2, 20), (1, 3, 30), (1, 4, 40)])
PAIR = ([5, 7], [(0, 1, 3)])
ALONE = ([8], [])


def with_row(paper, at, row):
    """The paper with another row at one of its branches."""
    return paper[:at] + [(paper[at][0], row)] + paper[at + 1:]


def with_branch(paper, at, branch):
    return paper[:at] + [(branch, paper[at][1])] + paper[at + 1:]


def wrong_rows(row):
    """Rows of the same length that are off by one, or by far, in one number."""
    for at, by in itertools.product(range(len(row)), (1, -1, FAR, -FAR)):
        yield row[:at] + [row[at] + by] + row[at + 1:]


def rows_of_other_lengths(row):
    return [[], row[:-1], row + [0], row + row[-1:], row * 4]


def no_branches(tree):
    """Tuples of whole numbers that are no two tied places."""
    many = len(tree[0])
    near = range(-1, many + 1)
    tied = [{a, b} for a, b, _ in tree[1]]
    return [pair for pair in itertools.product(near, near) if set(pair) not in tied] + [(FAR, -FAR), (0, FAR)]


def joined_by_hand(tree, rule, place, before, rows):
    own = tree[0][place]
    row = [sum_by_hand(part, own, None, None, None) for part in rule[0]]
    for near in neighbours_by_hand(tree, place):
        if near != before:
            row = [sum_by_hand(part, own, None, row, rows[place, near]) for part in rule[2]]
    return row


def seat_by_hand_and_paper(tree, rule, paper, place):
    row = joined_by_hand(tree, rule, place, None, dict(paper))
    return sum_by_hand(rule[3], tree[0][place], None, row, None)


def fitting_but_for_one(tree, rule, wrong, wrong_row):
    """The paper with a wrong row, and all other rows as they follow from the rows that it has."""
    rows = {}

    def follow(a, b):
        for near in neighbours_by_hand(tree, b):
            if near != a:
                follow(b, near)
        more = joined_by_hand(tree, rule, b, a, rows)
        tie = length_by_hand(tree, a, b)
        rows[a, b] = [sum_by_hand(part, tree[0][b], tie, None, more) for part in rule[1]]
        if (a, b) == wrong:
            rows[a, b] = wrong_row

    for branch, _ in rows_by_hand(tree, rule):
        follow(*branch)
    return sorted(rows.items())


class PapersLetBy(SeatCase):
    def test_all_rows_in_any_order(self):
        for tree, rule in itertools.product(all_trees(3), RULES):
            for paper in itertools.permutations(rows_by_hand(tree, rule)):
                self.tells(True, paper_shows, tree, rule, list(paper))

    def test_of_every_small_tree(self):
        for tree, rule in itertools.product(all_trees(5), RULES):
            paper = rows_by_hand(tree, rule)
            for changed in (paper, paper[::-1], paper[1::2] + paper[::2]):
                self.tells(True, paper_shows, tree, rule, changed)

    def test_in_forty_places(self):
        for tree, rule in itertools.product(large_trees() + large_trees_in_other_orders(), RULES):
            paper = all_rows(tree, rule)
            self.same(paper_shows(tree, rule, paper), True)
            self.same(paper_shows(tree, rule, paper[20:] + paper[:20][::-1]), True)

    def test_of_one_place_alone_just_the_paper_of_nothing(self):
        for rule in RULES:
            self.tells(True, paper_shows, ALONE, rule, [])
            for branch in ((0, 0), (0, 1), (1, 0), (-1, 0)):
                for row in ([], [0], [0, 0], [8, 8, 8]):
                    self.tells(False, paper_shows, ALONE, rule, [(branch, row)])

    def test_by_the_rows_and_not_by_the_tree_alone(self):
        self.tells(True, paper_shows, PAIR, FARTHEST, [((1, 0), [3]), ((0, 1), [3])])
        self.tells(False, paper_shows, PAIR, FARTHEST, [((1, 0), [3]), ((0, 1), [4])])
        self.tells(False, paper_shows, ([5, 7], [(0, 1, 4)]), FARTHEST, [((1, 0), [3]), ((0, 1), [3])])
        self.tells(False, paper_shows, PAIR, FIGURES, [((1, 0), [3]), ((0, 1), [3])])


class PapersNotLetBy(SeatCase):
    def is_not_shown(self, tree, rule, paper):
        self.tells(False, paper_shows, tree, rule, paper)

    def small_papers(self, most=4):
        for tree, rule in itertools.product(all_trees(most), (FIGURES, WAYS, MIXED)):
            paper = rows_by_hand(tree, rule)
            for at in range(len(paper)):
                yield tree, rule, paper, at

    def test_a_branch_left_out(self):
        for tree, rule, paper, at in self.small_papers(5):
            self.is_not_shown(tree, rule, paper[:at] + paper[at + 1:])
        self.is_not_shown(FORK, WAYS, [])

    def test_a_branch_told_twice(self):
        for tree, rule, paper, at in self.small_papers():
            self.is_not_shown(tree, rule, paper + [paper[at]])
            self.is_not_shown(tree, rule, [(paper[at][0], [9] * len(rule[0]))] + paper)
            self.is_not_shown(tree, rule, paper + [(paper[at][0], [])])
            self.is_not_shown(tree, rule, paper[:at] + [paper[at - 1]] + paper[at + 1:])
            self.is_not_shown(tree, rule, paper + paper)

    def test_a_branch_turned_about(self):
        for tree, rule, paper, at in self.small_papers():
            self.is_not_shown(tree, rule, with_branch(paper, at, paper[at][0][::-1]))
        for tree in all_trees(5):
            paper = rows_by_hand(tree, FIGURES)
            turned = [(branch[::-1], row) for branch, row in paper]
            # Where both rows of each tie are alike they are right either way.
            self.tells(sorted(turned) == paper, paper_shows, tree, FIGURES, turned)

    def test_a_branch_of_no_two_tied_places(self):
        for tree, rule, paper, at in self.small_papers():
            for branch in no_branches(tree):
                self.is_not_shown(tree, rule, with_branch(paper, at, branch))
                self.is_not_shown(tree, rule, paper + [(branch, paper[at][1])])

    def test_a_row_of_another_length(self):
        for tree, rule, paper, at in self.small_papers():
            for row in rows_of_other_lengths(paper[at][1]):
                self.is_not_shown(tree, rule, with_row(paper, at, row))
            self.is_not_shown(tree, rule, [(branch, row + [0]) for branch, row in paper])
            self.is_not_shown(tree, rule, [(branch, []) for branch, row in paper])

    def test_a_row_off_by_one_or_by_far(self):
        for tree, rule, paper, at in self.small_papers():
            for row in wrong_rows(paper[at][1]):
                self.is_not_shown(tree, rule, with_row(paper, at, row))

    def test_rows_that_fit_one_another_but_for_one(self):
        for tree, rule, paper, at in self.small_papers():
            for row in wrong_rows(paper[at][1]):
                self.is_not_shown(tree, rule, fitting_but_for_one(tree, rule, paper[at][0], row))

    def test_two_rows_exchanged(self):
        paper = rows_by_hand(FORK, WAYS)
        for one, other in itertools.combinations(range(8), 2):
            changed = with_row(with_row(paper, one, paper[other][1]), other, paper[one][1])
            self.tells(sorted(changed) == paper, paper_shows, FORK, WAYS, changed)

    def test_in_forty_places(self):
        for tree, rule in itertools.product(large_trees_in_other_orders(), RULES):
            paper = all_rows(tree, rule)
            for at in range(0, len(paper), 9):
                self.same(paper_shows(tree, rule, with_row(paper, at, next(wrong_rows(paper[at][1])))), False)
                self.same(paper_shows(tree, rule, paper[:at] + paper[at + 1:]), False)

    def test_a_wrong_row_makes_no_number_too_long(self):
        # By the right rows all is 0; by a wrong one each join squares what the one before it told.
        both = ("plus", SO0, MORE0)
        rule = ([number(0)], [MORE0], [("times", both, both)], SO0)
        tree = star_tree(40, 0)
        paper = [(branch, [0]) for branch, _ in all_rows(tree, WAYS)]
        self.same(paper_shows(tree, rule, paper), True)
        for at in range(len(paper)):
            self.same(paper_shows(tree, rule, with_row(paper, at, [2])), False)


class SeatsByPapers(SeatCase):
    def test_right_rows_tell_the_seats_worths(self):
        for tree, rule in itertools.product(all_trees(5), RULES):
            paper = rows_by_hand(tree, rule)[::-1]
            for place, worth in enumerate(all_seats(tree, rule)):
                self.tells(worth, seat_by_paper, tree, rule, paper, place)

    def test_right_rows_in_forty_places(self):
        for tree, rule in itertools.product(large_trees() + large_trees_in_other_orders(), RULES):
            paper = all_rows(tree, rule)[::-1]
            told = [seat_by_paper(tree, rule, paper, place) for place in range(len(tree[0]))]
            self.same(told, all_seats(tree, rule))

    def test_wrong_rows_are_taken_as_they_stand(self):
        paper = [((1, 4), [9]), ((1, 0), [7]), ((1, 3), [-20]), ((0, 1), [5])]
        self.tells(2000 + 700 - 200 + 9, seat_by_paper, FORK, FIGURES, paper, 1)
        self.tells(9, seat_by_paper, FORK, FARTHEST, paper, 1)
        for tree, rule in itertools.product(all_trees(4), RULES):
            paper = [(branch, [at * 7 - 9 - n for n in range(len(row))])
                     for at, (branch, row) in enumerate(rows_by_hand(tree, rule))]
            for place in range(len(tree[0])):
                self.tells(seat_by_hand_and_paper(tree, rule, paper, place), seat_by_paper, tree, rule, paper, place)

    def test_one_place_alone_needs_no_rows(self):
        for paper in ([], [((0, 0), [1])], [((0, 1), []), ((0, 1), [])]):
            self.tells(8, seat_by_paper, ALONE, FIGURES, paper, 0)

    def test_only_branches_seen_from_the_place_matter(self):
        for tree, rule in itertools.product(all_trees(4), (FIGURES, WAYS, MIXED)):
            paper = rows_by_hand(tree, rule)
            for place, worth in enumerate(all_seats(tree, rule)):
                seen = [told for told in paper if told[0][0] == place]
                others = [told for told in paper if told[0][0] != place]
                self.tells(worth, seat_by_paper, tree, rule, seen, place)
                self.tells(worth, seat_by_paper, tree, rule, others + others + seen, place)
                self.tells(worth, seat_by_paper, tree, rule, [(branch, []) for branch, _ in others] + seen, place)
                strange = [(branch, [1]) for branch in no_branches(tree)]
                self.tells(worth, seat_by_paper, tree, rule, strange + seen, place)

    def test_refused_where_a_branch_seen_is_not_there_once_with_a_whole_row(self):
        for tree, rule in itertools.product(all_trees(4), (FIGURES, WAYS, MIXED)):
            paper = rows_by_hand(tree, rule)
            for at, (branch, row) in enumerate(paper):
                wrong = [paper[:at] + paper[at + 1:], paper + [paper[at]], [(branch, row + [1])] + paper,
                         with_branch(paper, at, branch[::-1]), paper + [(branch, [])], []]
                wrong += [with_row(paper, at, other) for other in rows_of_other_lengths(row)]
                for changed in wrong:
                    self.refuses("NoPaper", seat_by_paper, tree, rule, changed, branch[0])


class FirstWrong(SeatCase):
    def test_none_where_all_are_right(self):
        for tree, rule in itertools.product(all_trees(5), RULES):
            paper = rows_by_hand(tree, rule)
            for changed in (paper, paper[::-1], paper[1::2] + paper[::2]):
                self.tells(None, first_wrong, tree, rule, changed)
        self.tells(None, first_wrong, ALONE, FIGURES, [])

    def test_none_where_just_other_tuples_are_there_too(self):
        for tree in all_trees(4):
            strange = [(branch, [1]) for branch in no_branches(tree)]
            self.tells(None, first_wrong, tree, FIGURES, strange + rows_by_hand(tree, FIGURES))

    def test_one_wrong_branch(self):
        for tree, rule in itertools.product(all_trees(4), (FIGURES, WAYS, MIXED)):
            paper = rows_by_hand(tree, rule)
            for at, (branch, row) in enumerate(paper):
                wrong = [paper[:at] + paper[at + 1:], paper + [paper[at]], [(branch, row + [1])] + paper]
                wrong += [with_row(paper, at, other) for other in wrong_rows(row)]
                wrong += [with_row(paper, at, other) for other in rows_of_other_lengths(row)]
                for changed in wrong:
                    self.tells(branch, first_wrong, tree, rule, changed)
                    self.tells(branch, first_wrong, tree, rule, changed[::-1])

    def test_the_first_one_of_several(self):
        paper = rows_by_hand(FORK, WAYS)
        spoils = (lambda told: [], lambda told: [told, told], lambda told: [(told[0], [0, 0])])
        for one, other in itertools.combinations(range(8), 2):
            for spoil_one, spoil_other in itertools.product(spoils, spoils):
                changed = (paper[:one] + spoil_one(paper[one]) + paper[one + 1:other]
                           + spoil_other(paper[other]) + paper[other + 1:])
                self.tells(paper[one][0], first_wrong, FORK, WAYS, changed)
                self.tells(paper[one][0], first_wrong, FORK, WAYS, changed[::-1])
        self.tells((0, 1), first_wrong, FORK, WAYS, [])
        self.tells((0, 1), first_wrong, PAIR, WAYS, [((1, 0), [3, 1])])

    def test_rows_that_fit_a_wrong_one_are_wrong(self):
        for tree, rule in itertools.product(all_trees(4), (FIGURES, WAYS, MIXED)):
            paper = rows_by_hand(tree, rule)
            for branch, row in paper:
                changed = fitting_but_for_one(tree, rule, branch, next(wrong_rows(row)))
                wrong = [right[0] for right, told in zip(paper, changed) if right != told]
                self.tells(wrong[0], first_wrong, tree, rule, changed)
        # Just (1, 2) does not fit the others, but (0, 1), ahead of it, is wrong by it.
        path = ([0] * 3, [(0, 1, 2), (1, 2, 3)])
        changed = fitting_but_for_one(path, FARTHEST, (1, 2), [9])
        self.same(changed, [((0, 1), [11]), ((1, 0), [2]), ((1, 2), [9]), ((2, 1), [5])])
        self.tells((0, 1), first_wrong, path, FARTHEST, changed)

    def test_in_forty_places(self):
        for tree, rule in itertools.product(large_trees_in_other_orders(), RULES):
            paper = all_rows(tree, rule)
            self.same(first_wrong(tree, rule, paper[::-1]), None)
            for at in range(0, len(paper), 17):
                changed = with_row(paper, at, next(wrong_rows(paper[at][1])))
                self.same(first_wrong(tree, rule, changed[::-1]), paper[at][0])


class Refusals(SeatCase):
    def test_no_rule_goes_first(self):
        papers = ([], rows_by_hand(FORK, WAYS), [((0, 0), [])])
        for rule, paper, tree in itertools.product(NO_RULES, papers, (FORK, ALONE)):
            self.refuses("NoRule", paper_shows, tree, rule, paper)
            self.refuses("NoRule", first_wrong, tree, rule, paper)
            for place in (0, -1, 5, FAR):
                self.refuses("NoRule", seat_by_paper, tree, rule, paper, place)

    def test_no_place_goes_ahead_of_no_paper(self):
        for tree in (FORK, ALONE):
            many = len(tree[0])
            papers = ([], rows_by_hand(tree, WAYS), [((many, 0), [1, 1])], [((-1, 0), [1])])
            for paper, place in itertools.product(papers, (-1, -many, many, many + 1, FAR, -FAR)):
                self.refuses("NoPlace", seat_by_paper, tree, WAYS, paper, place)


class NothingIsKept(SeatCase):
    def test_a_paper_that_was_changed_is_told_as_it_is_now(self):
        tree, rule = copy.deepcopy((FORK, WAYS))
        paper = all_rows(tree, rule)
        self.same(paper_shows(tree, rule, paper), True)
        self.same(seat_by_paper(tree, rule, paper, 0), 120)
        paper[1][1][0] += 5
        self.same(paper_shows(tree, rule, paper), False)
        self.same(seat_by_paper(tree, rule, paper, 0), 125)
        self.same(first_wrong(tree, rule, paper), (0, 2))
        paper.pop(0)
        self.refuses("NoPaper", seat_by_paper, tree, rule, paper, 0)
        self.same(first_wrong(tree, rule, paper), (0, 1))
        self.same(paper_shows(tree, rule, all_rows(tree, rule)), True)


if __name__ == "__main__":
    unittest.main()
