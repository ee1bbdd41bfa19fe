"""Point 8, with 2 and 3: what is a rule, and what a sum is."""

import itertools
import unittest

from everyseat.branches import branch_row, seat_worth
from everyseat.rules import is_rule, need_rule, sum_at
from tests.helper import FAR, MORE0, NO_RULES, OWN, PAIRS, RULES, SO0, TIE, SeatCase, number, sum_by_hand

TREE = ([3, 4, 5], [(0, 1, 7), (1, 2, -2)])
SINGLES = (OWN, TIE, SO0, MORE0)
MAY_STAND = ((OWN,), (OWN, TIE, MORE0), (OWN, SO0, MORE0), (OWN, SO0))
TOLD = 3


def with_sum(at, told, many=1, which=0):
    """Sums of just numbers, but with one sum put into the list at begin, over or join, or put as told."""
    rule = [[number(1) for _ in range(many)] for _ in range(3)] + [number(1)]
    if at == TOLD:
        rule[at] = told
    else:
        rule[at][which] = told
    return tuple(rule)


def wraps(told):
    """The sum alone, and within other ones in several ways."""
    yield told
    for word in PAIRS:
        yield (word, told, number(2))
        yield (word, number(2), told)
    yield nested(told, 0)
    yield nested(told, 1)


def nested(told, side):
    """The sum within nine others, on the side that is told."""
    for at in range(9):
        pair = [OWN, OWN]
        pair[side] = told
        told = (PAIRS[at % 5], *pair)
    return told


class WhatIsARule(SeatCase):
    def is_one(self, rule):
        self.tells(True, is_rule, rule)
        self.tells(None, need_rule, rule)

    def is_none(self, rule):
        self.tells(False, is_rule, rule)
        self.refuses("NoRule", need_rule, rule)

    def is_as(self, may_be, rule):
        if may_be:
            self.is_one(rule)
        else:
            self.is_none(rule)

    def test_rules(self):
        for rule in RULES:
            self.is_one(rule)

    def test_which_sums_may_stand_where(self):
        for at, told in itertools.product(range(4), SINGLES):
            for wrapped in wraps(told):
                self.is_as(told in MAY_STAND[at], with_sum(at, wrapped))

    def test_each_sum_of_a_list_counts(self):
        for many in (1, 2, 3):
            for at, which, told in itertools.product(range(3), range(many), SINGLES):
                self.is_as(told in MAY_STAND[at], with_sum(at, told, many, which))

    def test_numbers_may_stand_everywhere(self):
        for at, n in itertools.product(range(4), (0, -1, 1, 3, FAR, -FAR)):
            self.is_one(with_sum(at, number(n)))
            self.is_one(with_sum(at, ("times", number(n), ("less", number(n), number(n)))))

    def test_each_i_is_below_how_many_sums_begin_has(self):
        for many, i in itertools.product((1, 2, 3), (-FAR, -4, -3, -2, -1, 0, 1, 2, 3, 4, FAR)):
            for at, word in ((1, "more"), (2, "more"), (2, "so"), (TOLD, "so")):
                for wrapped in wraps((word, i)):
                    self.is_as(0 <= i < many, with_sum(at, wrapped, many))

    def test_an_i_makes_no_word_stand_where_it_may_not(self):
        for i in (-1, 0, 1):
            for at, word in ((0, "so"), (0, "more"), (1, "so"), (TOLD, "more")):
                self.is_none(with_sum(at, (word, i)))

    def test_how_many_sums_there_may_be(self):
        for begin, over, join in itertools.product(range(6), repeat=3):
            rule = tuple([number(4)] * many for many in (begin, over, join)) + (OWN,)
            self.is_as(begin == over == join and 1 <= begin <= 3, rule)

    def test_ten_sums_within_one_another(self):
        full = OWN
        for at in range(9):
            full = (PAIRS[at % 5], full, full)
        for at in range(4):
            self.is_one(with_sum(at, full))
            self.is_none(with_sum(at, ("plus", full, ("so", 1))))

    def test_somewhat_more_than_ten_raise_nothing(self):
        deep = OWN
        for _ in range(40):
            deep = ("plus", deep, number(1))
        self.is_one(with_sum(0, deep))
        self.tells(42, sum_at, deep, 2, 0, [], [])


class RulesAheadOfAllElse(SeatCase):
    def test_no_rule_goes_first(self):
        for rule in NO_RULES:
            for place in (0, 2, -1, 3, FAR, -FAR):
                self.refuses("NoRule", seat_worth, TREE, rule, place)
            for branch in ((0, 1), (0, 2), (1, 1), (-1, 0), (0, FAR)):
                self.refuses("NoRule", branch_row, TREE, rule, branch)
            self.refuses("NoRule", seat_worth, ([3], []), rule, 0)


class WhatASumIs(SeatCase):
    def test_every_kind(self):
        for told, expected in ((number(6), 6), (number(-6), -6), (number(FAR), FAR), (OWN, 20), (TIE, 30),
                               (SO0, 41), (("so", 1), 42), (("so", 2), 43),
                               (MORE0, 51), (("more", 1), 52), (("more", 2), 53),
                               (("plus", OWN, TIE), 50), (("less", OWN, TIE), -10), (("less", TIE, OWN), 10),
                               (("times", OWN, TIE), 600), (("most", OWN, TIE), 30), (("most", TIE, OWN), 30),
                               (("least", OWN, TIE), 20), (("least", TIE, OWN), 20)):
            self.tells(expected, sum_at, told, 20, 30, [41, 42, 43], [51, 52, 53])

    def test_below_nothing_and_alike(self):
        for x, y in itertools.product((-FAR, -3, -1, 0, 1, 2, FAR), repeat=2):
            for word, expected in (("plus", x + y), ("less", x - y), ("times", x * y),
                                   ("most", sorted([x, y])[1]), ("least", sorted([x, y])[0])):
                self.tells(expected, sum_at, (word, OWN, SO0), x, 8, [y], [9])
                self.tells(expected, sum_at, (word, number(x), number(y)), 8, 8, [], [])

    def test_the_first_and_the_second_keep_their_sides(self):
        told = ("less", ("less", OWN, ("less", TIE, SO0)), ("less", MORE0, number(1)))
        self.tells((100 - (20 - 3)) - (7 - 1), sum_at, told, 100, 20, [3], [7])

    def test_ten_within_one_another(self):
        for side in (0, 1):
            for told in SINGLES:
                deep = nested(told, side)
                for own in (3, -3, FAR, -FAR):
                    expected = sum_by_hand(deep, own, -5, [7], [FAR])
                    self.tells(expected, sum_at, deep, own, -5, [7], [FAR])

    def test_a_number_of_nearly_two_thousand_figures(self):
        full = OWN
        for _ in range(6):
            full = ("times", full, full)
        self.tells(FAR ** 64, sum_at, full, FAR, 0, [], [])
        self.assertGreater(len(str(FAR ** 64)), 1800)


if __name__ == "__main__":
    unittest.main()
