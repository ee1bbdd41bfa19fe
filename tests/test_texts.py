"""Point 26: trees and rules written, and read to the same."""

import unittest

from everyseat.named import rule_named, rule_names
from everyseat.texts import read_rule, read_tree, show_rule, show_tree
from tests.helper import (
    EXCHANGED, FAR, FARTHEST, MIXED, MORE0, NO_RULES, OWN, PAIRS, RULES, SO0, TIE, SeatCase, all_trees, large_trees,
    large_trees_in_other_orders, near_texts, number, numbers_in_turn, path_tree, refusal_of_rule_text,
    refusal_of_tree_text, star_tree, varied)

PLAIN = "begin own; over more0; join (so0 + more0); told so0"


def rule_text(begin="own", over="own", join="own", told="own"):
    return f"begin {begin}; over {over}; join {join}; told {told}"


def sum_in_turn(turn, singles, deep):
    """A sum of so many within one another at most, each time another one."""
    pick = next(turn)
    if deep == 0 or pick % 4 == 0:
        return singles[pick // 4 % len(singles)]
    return (PAIRS[pick // 4 % 5], sum_in_turn(turn, singles, deep - 1), sum_in_turn(turn, singles, deep - 1))


def rule_in_turn(turn, deep):
    many = next(turn) % 3 + 1
    numbers = [number(n) for n in (0, 1, -1, 10, -205, FAR, -FAR)]
    so, more = [("so", i) for i in range(many)], [("more", i) for i in range(many)]
    lists = [[sum_in_turn(turn, singles, deep) for _ in range(many)]
             for singles in (numbers + [OWN], numbers + [OWN, TIE] + more, numbers + [OWN] + so + more)]
    return *lists, sum_in_turn(turn, numbers + [OWN] + so, deep)


def even_sum(many):
    """The text of a sum of so many ones, with brackets as flat as can be."""
    if many == 1:
        return "1"
    return f"({even_sum(many // 2)} + {even_sum(many - many // 2)})"


class TreesWritten(SeatCase):
    def both_ways(self, tree, text):
        self.tells(text, show_tree, tree)
        self.tells(tree, read_tree, text)

    def test_just_as_told(self):
        self.both_ways(([5, 0, -7], [(0, 1, 10), (1, 2, -3)]), "5 0 -7\n0-1:10 1-2:-3")
        self.both_ways(([0, 0], [(0, 1, 0)]), "0 0\n0-1:0")
        self.both_ways(([-FAR, FAR], [(0, 1, -FAR)]), f"{-FAR} {FAR}\n0-1:{-FAR}")

    def test_no_ties(self):
        for worth in (0, 6, -6, 10, FAR):
            self.both_ways(([worth], []), f"{worth}\n")

    def test_places_of_two_figures_stand_sorted_as_numbers(self):
        tree = ([1] * 12, [(0, place, place) for place in range(1, 12)])
        text = "1 1 1 1 1 1 1 1 1 1 1 1\n0-1:1 0-2:2 0-3:3 0-4:4 0-5:5 0-6:6 0-7:7 0-8:8 0-9:9 0-10:10 0-11:11"
        self.both_ways(tree, text)
        worths, ties = text.split("\n")
        self.refuses("NoText", read_tree, worths + "\n" + " ".join(sorted(ties.split(" "))))

    def test_every_small_tree_and_large_ones(self):
        for small in all_trees(4):
            for tree in varied(small):
                self.both_ways(tree, show_tree(tree))
        for tree in large_trees() + large_trees_in_other_orders():
            self.both_ways(tree, show_tree(tree))

    def test_numbers_of_very_many_figures(self):
        for many in (63, 64, 65, 127, 128, 129, 192, 3900, 5000):
            for figures in ("9" * many, "1" + "0" * many, "-1" + "0" * many, "-" + "70" * (many // 2)):
                self.assertEqual(show_tree(read_tree(figures + "\n")), figures + "\n")
            self.assertEqual(read_tree("1" + "0" * many + "\n"), ([10 ** many], []))


class TreesRefused(SeatCase):
    def refuse_all(self, name, texts):
        for text in texts:
            with self.subTest(text=text):
                self.refuses(name, read_tree, text)
                self.assertEqual(refusal_of_tree_text(text), name)

    def test_no_worth_no_rows_or_too_many(self):
        self.refuse_all("NoText", ["", " ", "\n", "\n\n", "5", "5 6", "\n5", "\n0-1:2", "5\n\n", "\n5\n", "5\n6\n",
                                   "5 6\n0-1:2\n", "5\n6\n0-1:2", "5 6|0-1:2", "5 6 | 0-1:2", "5 6 0-1:2"])

    def test_blanks(self):
        self.refuse_all("NoText", [" 5\n", "5 \n", "5\n ", " \n", " 5 6\n0-1:2", "5 6 \n0-1:2", "5 6\n 0-1:2",
                                   "5 6\n0-1:2 ", "5  6\n0-1:2", "5 6 7\n0-1:2  0-2:2", "5 6\n0- 1:2",
                                   "5 6\n0 -1:2", "5 6\n0-1: 2", "5 6\n0-1 :2", "5\t6\n0-1:2", "5 6\r\n0-1:2"])

    def test_figures(self):
        self.refuse_all("NoText", ["05\n", "00\n", "-0\n", "-05\n", "+5\n", "+0\n", "--5\n", "-\n", "+\n", "5-\n",
                                   "5-6\n", "5,6\n", "a\n", "5a\n", "x5\n", "1_0\n", "1.0\n", "1e3\n", "0x1\n",
                                   "- 5\n", "5 6\n0-1:02", "5 6\n0-1:-0", "5 6\n0-1:+2", "5 6\n0-1:--2",
                                   "5 6\n0-1:", "5 6\n0-1:-", "5 6\n00-1:2", "5 6\n0-01:2", "5 6\n+0-1:2",
                                   "5 6\n0-+1:2", "5 6\n0-1:2a", "5 6\n0-1:a"])

    def test_signs_that_pass_for_figures_elsewhere(self):
        self.refuse_all("NoText", ["\u0665\n", "\u00b2\n", "5 \uff16\n0-1:2", "5 6\n0-\u0661:2", "5\u00a06\n0-1:2"])

    def test_places_with_a_minus(self):
        self.refuse_all("NoText", ["5 6\n-1-0:2", "5 6\n0--1:2", "5 6\n-0-1:2", "5 6\n0--0:2", "5 6\n-1--2:2"])

    def test_ties_that_are_not_whole(self):
        self.refuse_all("NoText", ["5 6\n0-1", "5 6\n0:2", "5 6\n:2", "5 6\n-1:2", "5 6\n0-:2", "5 6\n-:", "5 6\n0",
                                   "5 6\n0-1:2:3", "5 6\n0-1-2:3", "5 6\n0-1::2", "5 6\n0:1-2", "5 6\n(0, 1, 2)",
                                   "5 6\n0-1:2,", "5 6 7\n0-1:2,1-2:2", "5 6 7\n0-1:2, 1-2:2"])

    def test_ties_that_do_not_stand_sorted(self):
        self.refuse_all("NoText", ["5 6 7\n1-2:2 0-1:2", "5 6 7\n0-2:2 0-1:2", "5 6 7\n0-1:3 0-1:2",
                                   "5 6 7\n0-1:2 0-1:-2", "5 6 7\n9-9:9 0-1:2", "5\n1-2:2 0-1:2"])

    def test_the_form_and_no_tree(self):
        self.refuse_all("NoTree", ["5 6\n", "5 6 7\n0-1:2", "5\n0-1:2", "5 6\n0-1:2 0-1:2", "5 6 7\n0-1:2 0-2:2 1-2:2",
                                   "5 6\n1-0:2", "5 6 7\n0-1:2 2-1:2", "5 6 7\n0-1:2 0-1:2", "5 6 7\n0-1:-2 0-1:2",
                                   "5 6\n0-0:2", "5 6\n1-1:2", "5\n0-0:2", "5 6\n0-2:2", "5 6\n2-3:2",
                                   "5 6 7\n0-1:2 1-3:2", "5 6 7 8\n0-1:2 0-2:2 1-2:2", f"5 6\n0-{FAR}:2"])

    def test_all_texts_near_to_one(self):
        seen = set()
        for text in ("6\n", "5 0 -7\n0-1:10 1-2:-3", "1 2 3\n0-2:0 1-2:0", "10 -20\n0-1:-5"):
            for near in near_texts(text, " \n-:+0129a|\t"):
                seen.add(refusal_of_tree_text(near))
                if refusal_of_tree_text(near):
                    self.refuses(refusal_of_tree_text(near), read_tree, near)
                else:
                    self.assertEqual(show_tree(read_tree(near)), near)
        self.assertEqual(seen, {None, "NoText", "NoTree"})


class RulesWritten(SeatCase):
    def both_ways(self, rule, text):
        self.tells(text, show_rule, rule)
        self.tells(rule, read_rule, text)

    def test_just_as_told(self):
        self.both_ways(FARTHEST, "begin 0; over (more0 + tie); join (so0 max more0); told so0")
        self.both_ways(EXCHANGED, "begin 1, own; over (more1 + tie), more0; join (so1 + more0), (so0 - more1); "
                                  "told ((1000 * so0) - so1)")
        self.both_ways(MIXED, "begin own, (5 - own), (own * -2); "
                              "over (more1 - tie), (more2 + own), (more0 max (tie * 2)); "
                              "join (more1 - so0), (so0 + (so2 min more0)), ((so1 + more2) max (own - so0)); "
                              "told ((so0 * 3) + (so2 - (own min so1)))")

    def test_every_word_of_sums(self):
        for word, sign in zip(PAIRS, ("+", "-", "*", "max", "min")):
            self.both_ways(([OWN], [(word, TIE, MORE0)], [(word, MORE0, SO0)], (word, number(-1), OWN)),
                           f"begin own; over (tie {sign} more0); join (more0 {sign} so0); told (-1 {sign} own)")

    def test_numbers(self):
        for n in (0, 1, -1, 9, 10, -10, 100, FAR, -FAR):
            self.both_ways(([number(n)], [number(n)], [number(n)], number(n)),
                           f"begin {n}; over {n}; join {n}; told {n}")
        figures = "12345678" * 400
        self.assertEqual(show_rule(read_rule(rule_text(told="-" + figures))), rule_text(told="-" + figures))

    def test_sums_within_sums(self):
        left, right, text = OWN, OWN, "own"
        right_text = "own"
        for deep in range(10):
            left, text = ("less", left, number(deep)), f"({text} - {deep})"
            right, right_text = ("times", number(deep), right), f"({deep} * {right_text})"
            self.both_ways(([left], [OWN], [right], ("most", left, right)),
                           rule_text(begin=text, join=right_text, told=f"({text} max {right_text})"))

    def test_rules_named_and_others(self):
        for rule in RULES + [rule_named(name) for name in rule_names()]:
            self.both_ways(rule, show_rule(rule))
        turn = numbers_in_turn(26)
        for deep in (0, 1, 2, 3, 4, 5) * 12:
            rule = rule_in_turn(turn, deep)
            self.both_ways(rule, show_rule(rule))
            self.assertIsNone(refusal_of_rule_text(show_rule(rule)))

    def test_what_is_no_rule_is_not_written(self):
        for rule in NO_RULES:
            self.refuses("NoRule", show_rule, rule)

    def test_more_than_a_thousand_brackets_that_write_a_rule(self):
        # Ten sums within one another, and fewer than four thousand signs.
        text = rule_text(told=even_sum(640))
        self.assertGreater(text.count("(") + text.count(")"), 1000)
        self.assertLess(len(text), 4000)
        self.assertTrue(show_rule(read_rule(text)) == text)
        for deep in (101, 501, 640):
            for told in ("(" * deep + "1" + " + 1)" * deep, "(1 + " * deep + "1" + ")" * deep):
                self.assertTrue(show_rule(read_rule(rule_text(told=told))) == rule_text(told=told))


class RulesRefused(SeatCase):
    def refuse_all(self, name, texts):
        for text in texts:
            with self.subTest(text=text):
                self.refuses(name, read_rule, text)
                self.assertEqual(refusal_of_rule_text(text), name)

    def refuse_sums(self, name, sums):
        """In each of the four parts."""
        for one in sums:
            self.refuse_all(name, [rule_text(begin=one), rule_text(over=one), rule_text(join=one), rule_text(told=one)])

    def test_parts_left_out_more_or_others(self):
        begin, over, join, told = "begin own", "over own", "join own", "told own"
        for parts in ([], [begin], [begin, over, join], [over, join, told], [begin, join, told],
                      [begin, over, join, told, told], [begin, begin, over, join, told], [over, begin, join, told],
                      [begin, over, told, join], [begin, over, join, "own"], [begin, over, join, "Told own"],
                      [begin, over, join, "told"], ["begin", over, join, told], [begin, over, join, "tell own"],
                      [begin, over, join, told, ""], ["", begin, over, join, told]):
            self.refuse_all("NoText", ["; ".join(parts)])
        for parted in (";", " ; ", " ", "", ";  ", ", ", ";\n", ": ", "\n"):
            self.refuse_all("NoText", [parted.join([begin, over, join, told])])

    def test_signs_at_the_ends(self):
        for sign in (" ", "\n", ";", ".", ",", ")", "; ", "0"):
            self.refuse_all("NoText", [PLAIN + " " + sign, sign + PLAIN])
        for sign in (" ", "\n", ";", ".", ",", ")", "; "):
            self.refuse_all("NoText", [PLAIN + sign])

    def test_no_sum_in_a_list(self):
        self.refuse_sums("NoText", ["", " ", ",", ", ", "own, ", ", own", "own, , own", "own,own", "own ,own",
                                    "own , own", "own,  own", "own own", "own; own", "own,"])
        self.refuse_all("NoText", ["begin; over own; join own; told own", "begin own; over; join own; told own",
                                   "begin own; over own; join own; told", "begin ; over ; join ; told "])

    def test_told_is_one_sum(self):
        self.refuse_all("NoText", [rule_text(told="own, own"), rule_text(told="so0, so0")])

    def test_figures(self):
        self.refuse_sums("NoText", ["00", "01", "-0", "-01", "+1", "+0", "--1", "-", "+", "1-", "1a", "1.0", "1_0",
                                    "- 1", "0x1", "(1 + 02)", "(-0 + 1)", "\u0665", "\u00b2"])

    def test_words(self):
        self.refuse_sums("NoText", ["Own", "OWN", "owns", "own0", "tie0", "ties", "so", "more", "so 0", "more 0",
                                    "so-1", "more-1", "so-0", "more-0", "so+1", "so00", "so01", "more00", "more01",
                                    "soo", "mores", "so0a", "own own", "number 1", "number1", "begin", "max",
                                    "so\u0661", "(own", "own)", "(own)", "((own))", "()", "(", ")", "[own + own]"])

    def test_sums_of_two(self):
        self.refuse_sums("NoText", ["own + own", "(own + own", "own + own)", "(own + )", "( + own)", "(own +)",
                                    "(+ own)", "(own own)", "(own + own + own)", "((own + own) + own",
                                    "(own + (own + own)", "(own + own))", "((own + own))", "(own + (own))",
                                    "((own) + own)", "(own+own)", "(own +own)", "(own+ own)", "(own  + own)",
                                    "(own +  own)", "( own + own)", "(own + own )", "(own plus own)", "(own / own)",
                                    "(own // own)", "(own ** own)", "(own Max own)", "(max own own)",
                                    "max(own, own)", "(own maxown)", "(own x own)", "(own + own) + own",
                                    "own + (own + own)", ")own + own(", "(own + own)(own + own)",
                                    "(own + own) own", "(own + own) (own + own)", "(own, own)", "(own + own, own)",
                                    "(own -own)", "(own -1)", "(own + +)", "(own + + own)", "(+ + +)",
                                    "(own +\nown)", "(own\n+ own)", "+ own", "own +", "+"])

    def test_very_many_brackets(self):
        for many in (501, 1001, 1900, 3900, 20000):
            self.refuse_sums("NoText", ["(" * many, ")" * many, "()" * many, "(" * many + ")" * many,
                                        "(" * many + "own" + ")" * many, "(" * many + "own", "own" + ")" * many,
                                        ") (" * many])
        for many in (501, 600, 3000):
            whole = "(" * many + "1" + " + 1)" * many
            for told in ("(" + whole, whole + ")", whole[:-1], whole[1:], whole.replace("+", "/", 1), whole + " + 1"):
                self.refuses("NoText", read_rule, rule_text(told=told))
        for many in (501, 3000):
            self.refuses("NoText", read_rule, "(" * many)
            self.refuses("NoText", read_tree, "(" * many)
            self.refuses("NoText", read_tree, "(" * many + "5" + ")" * many + "\n")

    def test_lists_that_are_not_as_long(self):
        for begin, over, join in ((1, 2, 1), (1, 1, 2), (2, 1, 1), (2, 2, 1), (3, 2, 3), (1, 3, 3), (4, 4, 4),
                                  (4, 3, 3), (3, 3, 4), (5, 5, 5)):
            lists = [", ".join(["own"] * many) for many in (begin, over, join)]
            self.refuse_all("NoRule", [rule_text(*lists)])

    def test_words_where_they_may_not_stand(self):
        self.refuse_all("NoRule", [rule_text(begin="tie"), rule_text(begin="so0"), rule_text(begin="more0"),
                                   rule_text(over="so0"), rule_text(join="tie"), rule_text(told="tie"),
                                   rule_text(told="more0"), rule_text(begin="(own + tie)"),
                                   rule_text(over="(tie * (more0 max so0))"), rule_text(join="((tie + 1) - 1)"),
                                   rule_text(told="(so0 min (1 + more0))")])

    def test_an_i_beyond(self):
        self.refuse_all("NoRule", [rule_text(over="more1"), rule_text(join="so1"), rule_text(join="more1"),
                                   rule_text(told="so1"), rule_text(told="so3"), rule_text(over="more10"),
                                   rule_text(told=f"so{FAR}"), rule_text("1, 1", "more2, 1", "1, 1", "1"),
                                   rule_text("1, 1, 1", "1, 1, more3", "1, 1, 1", "1")])

    def test_no_text_goes_ahead_of_no_rule(self):
        self.refuse_all("NoText", [rule_text(begin="tie", told="own "), rule_text(over="more1", join="so-1"),
                                   rule_text(begin="own, own", told="(own"), rule_text(begin="", over="so0")])

    def test_all_texts_near_to_one(self):
        seen = set()
        for text in (PLAIN, "begin 0, -1; over ((more0 - tie) min 12), more1; join so1, more1; told (so0 * own)"):
            for near in near_texts(text, " ()+-*,;0123otxX\n"):
                seen.add(refusal_of_rule_text(near))
                if refusal_of_rule_text(near):
                    self.refuses(refusal_of_rule_text(near), read_rule, near)
                else:
                    self.assertEqual(show_rule(read_rule(near)), near)
        self.assertEqual(seen, {None, "NoText", "NoRule"})


class ReadAnew(SeatCase):
    def test_each_reading_is_a_new_one(self):
        for read, text in ((read_tree, show_tree(path_tree(4))), (read_tree, show_tree(star_tree(5, 2))),
                           (read_rule, show_rule(MIXED)), (read_rule, PLAIN)):
            self.tells(read(text), read, text)


if __name__ == "__main__":
    unittest.main()
