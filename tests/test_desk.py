"""Points 27 and 28: the desk, and points 2 and 3 as far as they speak of it."""

import re
import unittest

from everyseat.desk import Desk
from everyseat.named import rule_named, rule_names
from everyseat.texts import read_rule, read_tree, show_rule, show_tree
from tests.helper import (
    FAR, NUMBER_FORM, PLACE_FORM, RULES, SeatCase, all_trees, bushy_tree, holding_any, holding_place, holding_tie,
    large_trees, lengths_by_hand, near_texts, neighbours_by_hand, numbers_in_turn, path_tree, refusal_of_length,
    refusal_of_move, refusal_of_rule_text, refusal_of_tree_text, seats_by_hand, star_tree, tree_with_length,
    tree_with_move, tree_with_worth)

# Place 1 is tied to all others: lengths 10, 3 and 4.
TREE_ROW = "tree 5 0 7 2 | 0-1:10 1-2:3 1-3:4"
FIGURES_ROW = "rule is begin own; over more0; join ((so0 * 10) + more0); told so0"

FORMS = {"seat": "P", "seats": "", "top": "", "worth": "PN", "length": "PPN", "move": "PPPPN", "way": "PP", "tree": ""}


def one_row(text):
    return text.replace("\n", " | ")


def way_by_hand(tree, one, other, before=None):
    if one == other:
        return [one]
    for near in neighbours_by_hand(tree, one):
        if near != before:
            on = way_by_hand(tree, near, other, one)
            if on:
                return [one] + on
    return []


class DeskByHand:
    """Tells the answer that is due to a row, or the name of the refusal."""

    def __init__(self):
        self.tree = ([0], [])
        self.rule = rule_named("farthest")

    def say(self, row):
        if row.startswith("tree "):
            return self.tree_told(row[5:])
        if row.startswith("rule is "):
            refusal = refusal_of_rule_text(row[8:])
            self.rule = self.rule if refusal else read_rule(row[8:])
            return refusal or "ok"
        if re.fullmatch("rule [^ \n]+", row):
            known = row[5:] in rule_names()
            self.rule = rule_named(row[5:]) if known else self.rule
            return "ok" if known else "NoName"
        for word, kinds in FORMS.items():
            form = "".join(" " + (PLACE_FORM if kind == "P" else NUMBER_FORM) for kind in kinds)
            if re.fullmatch(word + form, row):
                return self.answer(word, [int(figures) for figures in row.split(" ")[1:]])
        return "NoForm"

    def tree_told(self, text):
        refusal = "NoText" if "\n" in text else refusal_of_tree_text(text.replace(" | ", "\n"))
        self.tree = self.tree if refusal else read_tree(text.replace(" | ", "\n"))
        return refusal or "ok"

    def answer(self, word, numbers):
        seats = seats_by_hand(self.tree, self.rule)
        if word == "seats":
            return " ".join(map(str, seats))
        if word == "top":
            return " ".join(str(place) for place, worth in enumerate(seats) if worth == max(seats))
        if word == "tree":
            return one_row(show_tree(self.tree))
        if word == "length":
            return refusal_of_length(self.tree, *numbers[:2]) or self.changed(word, numbers)
        if word == "move":
            return refusal_of_move(self.tree, *numbers[:4]) or self.changed(word, numbers)
        if max(numbers[:1] if word == "worth" else numbers) >= len(self.tree[0]):
            return "NoPlace"
        if word == "seat":
            return str(seats[numbers[0]])
        if word == "way":
            length = lengths_by_hand(self.tree, numbers[0])[numbers[1]]
            return " ".join(map(str, way_by_hand(self.tree, *numbers))) + f": {length}"
        return self.changed(word, numbers)

    def changed(self, word, numbers):
        change = {"worth": tree_with_worth, "length": tree_with_length, "move": tree_with_move}[word]
        holding = {"worth": holding_place, "length": holding_tie, "move": lambda tree, *four: holding_any(tree, four)}
        self.tree = change(self.tree, *numbers)
        return f"anew {len(holding[word](self.tree, *numbers[:-1]))}"


class DeskCase(SeatCase):
    def talk(self, desk, *rows_and_answers):
        for row, answer in rows_and_answers:
            with self.subTest(row=row):
                self.same(desk.say(row), answer)

    def state(self, desk):
        return [desk.say(row) for row in ("tree", "seats", "top")]

    def refuse_rows(self, name, desk, rows):
        """Each is refused, and the desk is as it was."""
        before = self.state(desk)
        for row in rows:
            with self.subTest(row=row):
                self.refuses(name, desk.say, row)
                self.same(self.state(desk), before)

    def made(self):
        desk = Desk()
        self.talk(desk, (TREE_ROW, "ok"), (FIGURES_ROW, "ok"))
        return desk


class Asked(DeskCase):
    def test_a_new_desk(self):
        desk = Desk()
        self.talk(desk, ("tree", "0 | "), ("seats", "0"), ("seat 0", "0"), ("top", "0"), ("way 0 0", "0: 0"))
        # The rule is farthest: it stays while a tree is told.
        self.talk(desk, (TREE_ROW, "ok"), ("seats", "14 10 13 14"))

    def test_the_tree_of_a_new_desk_stays_while_a_rule_is_told(self):
        desk = Desk()
        for row in ("rule sum", "rule pieces", FIGURES_ROW):
            self.talk(desk, (row, "ok"), ("tree", "0 | "))

    def test_each_row(self):
        desk = Desk()
        self.talk(desk, (TREE_ROW, "ok"), ("tree", "5 0 7 2 | 0-1:10 1-2:3 1-3:4"),
                  ("seat 0", "14"), ("seat 1", "10"), ("seats", "14 10 13 14"), ("top", "0 3"),
                  ("way 0 2", "0 1 2: 13"), ("way 2 0", "2 1 0: 13"), ("way 3 3", "3: 0"),
                  ("rule sum", "ok"), ("seats", "37 17 23 25"), ("top", "0"),
                  (FIGURES_ROW, "ok"), ("seats", "122 572 122 77"),
                  ("worth 1 -4", "anew 3"), ("tree", "5 -4 7 2 | 0-1:10 1-2:3 1-3:4"), ("seat 0", "-278"),
                  ("length 2 1 -6", "anew 4"), ("way 0 2", "0 1 2: 4"),
                  ("move 1 2 2 0 8", "anew 5"), ("tree", "5 -4 7 2 | 0-1:10 0-2:8 1-3:4"),
                  ("way 3 2", "3 1 0 2: 22"), ("rule farthest", "ok"), ("seats", "14 18 22 22"), ("top", "2 3"))

    def test_tree_and_rule_stay_while_the_other_one_is_told(self):
        desk = self.made()
        self.talk(desk, ("tree 1 2 | 0-1:5", "ok"), ("seats", "12 21"), ("rule farthest", "ok"), ("seats", "5 5"),
                  ("worth 0 3", "anew 1"), ("rule best", "ok"), ("tree", "3 2 | 0-1:5"), ("seats", "3 3"),
                  (TREE_ROW, "ok"), ("seats", "14 14 14 14"))

    def test_a_tree_of_one_place(self):
        desk = Desk()
        self.talk(desk, ("tree -12 | ", "ok"), ("tree", "-12 | "), ("seats", "0"), ("top", "0"),
                  ("rule piece", "ok"), ("seat 0", "-12"), ("worth 0 7", "anew 0"), ("tree", "7 | "), ("seats", "7"),
                  (TREE_ROW, "ok"), ("tree 0 | ", "ok"), ("tree", "0 | "))

    def test_what_is_put_to_what_it_is_is_told_as_any(self):
        desk = self.made()
        before = self.state(desk)
        self.talk(desk, ("worth 0 5", "anew 3"), ("length 1 0 10", "anew 4"), ("move 1 0 0 1 10", "anew 4"))
        self.same(self.state(desk), before)

    def test_each_named_rule(self):
        model = DeskByHand()
        desk = Desk()
        for row in [TREE_ROW] + [row for name in rule_names() for row in ("rule " + name, "seats", "top", "seat 2")]:
            self.same(desk.say(row), model.say(row))

    def test_numbers_of_thirty_figures_and_of_very_many(self):
        desk = Desk()
        self.talk(desk, (f"tree {FAR} {-FAR} | 0-1:{-FAR}", "ok"), ("way 0 1", f"0 1: {-FAR}"),
                  (f"worth 1 {FAR}", "anew 1"), (f"length 0 1 {FAR}", "anew 2"), ("seats", f"{FAR} {FAR}"),
                  ("tree", f"{FAR} {FAR} | 0-1:{FAR}"))
        figures = "9" * 2500
        self.talk(desk, (f"rule is begin {figures}; over more0; join so0; told (so0 * 10)", "ok"),
                  ("seat 0", figures + "0"), ("seats", f"{figures}0 {figures}0"))

    def test_all_trees_and_rules(self):
        for tree in list(all_trees(3)) + [path_tree(5), star_tree(5, 2), bushy_tree(6)]:
            for rule in RULES:
                model, desk = DeskByHand(), Desk()
                rows = ["tree " + one_row(show_tree(tree)), "rule is " + show_rule(rule), "tree", "seats", "top"]
                rows += [f"seat {place}" for place in range(len(tree[0]))]
                rows += [f"way {one} {other}" for one in range(len(tree[0])) for other in range(len(tree[0]))]
                for row in rows:
                    self.same(desk.say(row), model.say(row))

    def test_large_trees(self):
        for tree in large_trees():
            desk = Desk()
            self.talk(desk, ("tree " + one_row(show_tree(tree)), "ok"), ("tree", one_row(show_tree(tree))),
                      ("worth 3 8", f"anew {len(tree[1])}"), ("tree", one_row(show_tree(tree_with_worth(tree, 3, 8)))))

    def test_long_talks(self):
        for seed, tree in enumerate([path_tree(5), star_tree(6, 2), bushy_tree(7)]):
            model, desk, turn = DeskByHand(), Desk(), numbers_in_turn(seed)
            many = len(tree[0])
            rows = ["tree " + one_row(show_tree(tree))]
            for _ in range(120):
                word = sorted(FORMS)[next(turn) % len(FORMS)]
                numbers = [next(turn) % (many + 1 if next(turn) % 8 == 0 else many) for _ in FORMS[word]]
                rows.append(" ".join([word] + [str(number) for number in numbers]))
                if next(turn) % 12 == 0:
                    rows.append("rule " + rule_names()[next(turn) % 6])
            answers = [model.say(row) for row in rows]
            for row, answer in zip(rows, answers):
                if answer.startswith("No"):
                    self.refuses(answer, desk.say, row)
                else:
                    self.same(desk.say(row), answer)
            self.assertTrue({"NoPlace", "NoTie"} <= set(answers))
            self.same(self.state(desk), self.state(model))


class Refused(DeskCase):
    def test_no_text(self):
        self.refuse_rows("NoForm", self.made(), [None, 0, 5, True, b"seats", ["seats"], ("seats",), {}])

    def test_words_left_out_more_or_others(self):
        self.refuse_rows("NoForm", self.made(), [
            "", "hello", "rule", "seat", "worth", "length", "move", "way", "Seats", "SEATS", "seatss", "set", "trees",
            "best", "is", "farthest", "0", "worth 0", "length 0", "length 0 1", "move 0 1 2 3", "move 0 1 0", "way 0",
            "seat 0 1", "seats 0", "top 0", "worth 0 1 2", "length 0 1 2 3", "move 0 1 0 2 3 4", "way 0 1 2",
            "seat seat", "worth 0 w", "length a b 3", "seats seats", "seat 0 seat 1", "top seats", "rule sum sum",
            "rule sum is", "rule the sum", "rule  is", "hello 0", "tree|0", "tree:0 | ", "rule:sum", "way 0,1",
            "seat(0)", "answer 0", "say seats"])

    def test_blanks_and_line_feeds(self):
        for row in ("seats", "top", "seat 0", "worth 0 1", "length 0 1 2", "move 0 1 0 2 3", "way 0 1", "rule sum"):
            self.refuse_rows("NoForm", self.made(), [row + " ", " " + row, row + "\n", "\n" + row, row + "  "])
            if " " in row:
                self.refuse_rows("NoForm", self.made(), [row.replace(" ", "  ", 1), row.replace(" ", "\n", 1),
                                                         row.replace(" ", "", 1), row.replace(" ", "\t", 1)])
        self.refuse_rows("NoForm", self.made(), [
            " ", "  ", "\n", " tree", "\ntree", "tree\n", "rule ", "rule  ", "rule \n", " " + TREE_ROW, " rule is x",
            "rule  is x", "rule\nis x", "rule is\nx"])

    def test_numbers_not_written_as_in_texts(self):
        wrong = ["00", "01", "-0", "-01", "+1", "--1", "-", "+", "1a", "a", "1.0", "1_0", "0x1", "\u0661", "\u00b2"]
        for figures in wrong + ["-1", "-2", f"-{FAR}"]:
            self.refuse_rows("NoForm", self.made(), [
                f"seat {figures}", f"worth {figures} 1", f"length {figures} 1 2", f"length 0 {figures} 2",
                f"move {figures} 1 0 2 3", f"move 0 {figures} 0 2 3", f"move 0 1 {figures} 2 3",
                f"move 0 1 0 {figures} 3", f"way {figures} 1", f"way 0 {figures}"])
        for figures in wrong:
            self.refuse_rows("NoForm", self.made(), [f"worth 0 {figures}", f"length 0 1 {figures}",
                                                     f"move 0 1 0 2 {figures}"])

    def test_a_form_goes_ahead_of_a_place(self):
        self.refuse_rows("NoForm", self.made(), [
            "seat 9 9", "worth 9 01", "length 9 9 -0", "move 9 9 9 9 x", "way 9 -9"])

    def test_a_tree_that_is_not_written(self):
        self.refuse_rows("NoText", self.made(), [
            "tree ", "tree  ", "tree x", "tree |", "tree  | ", "tree 0", "tree 0 ", "tree 0 |", "tree 0| ", "tree 0|",
            "tree 0 |  ", "tree 0  | ", "tree  0 | ", "tree 0 | |", "tree 0 |  | ", "tree 0 | | ", "tree 0 |\n",
            "tree 0\n", "tree 0\n0-1:2", "tree 1 2\n0-1:2", "tree 1 2 | 0-1:2\n", "tree \n", "tree 0 | \n",
            "tree 1\n2 | 0-1:2", "tree 1 2 | 0-1:2 | ", "tree 1 2 | 0-1:2 ", "tree 1 2 |0-1:2", "tree 1 2| 0-1:2",
            "tree 01 | ", "tree -0 | ", "tree 1 2 | -1-0:2", "tree 1 2 3 | 1-2:2 0-1:2", "tree seats", "tree tree"])

    def test_what_has_the_form_and_is_no_tree(self):
        self.refuse_rows("NoTree", self.made(), [
            "tree 1 2 | ", "tree 1 | 0-1:2", "tree 1 2 | 1-0:2", "tree 1 2 3 | 0-1:2 0-1:2", "tree 1 2 | 0-2:2",
            "tree 1 2 | 0-0:2", "tree 1 2 3 4 | 0-1:2 0-2:2 1-2:2"])

    def test_a_rule_that_is_not_written(self):
        text = "begin own; over more0; join so0; told so0"
        self.refuse_rows("NoText", self.made(), [
            "rule is ", "rule is  ", "rule is x", "rule is sum", "rule is \n", "rule is is", f"rule is  {text}",
            f"rule is {text} ", f"rule is {text}\n", f"rule is \n{text}", "rule is " + text.replace("; ", ";\n"),
            "rule is " + text.replace("own", ""), "rule is " + text.replace("so0", "so-1"),
            "rule is " + "(" * 2000, "rule is " + text.replace("own", "(" * 1001 + "own" + ")" * 1001)])

    def test_what_has_the_form_and_is_no_rule(self):
        self.refuse_rows("NoRule", self.made(), [
            "rule is begin tie; over own; join own; told own", "rule is begin own; over more1; join own; told own",
            "rule is begin own, own; over own; join own; told own", "rule is begin own; over own; join own; told tie",
            "rule is begin 1, 1, 1, 1; over 1, 1, 1, 1; join 1, 1, 1, 1; told 1"])

    def test_another_name(self):
        self.refuse_rows("NoName", self.made(), [
            "rule x", "rule is", "rule Farthest", "rule FARTHEST", "rule farthes", "rule farthestt", "rule sum;",
            "rule 0", "rule -", "rule |", "rule rule", "rule tree", "rule seats", "rule " + "x" * 3000])

    def test_as_the_stages_refuse(self):
        desk = self.made()
        self.refuse_rows("NoPlace", desk, [
            "seat 4", f"seat {FAR}", "worth 4 1", "length 0 4 1", "length 4 4 1", "length 4 1 1", "move 4 1 0 2 3",
            "move 0 4 0 2 3", "move 0 1 4 2 3", "move 0 1 0 4 3", "move 0 2 4 4 3", "way 4 0", "way 0 4", "way 4 4"])
        self.refuse_rows("NoTie", desk, ["length 0 2 1", "length 0 0 1", "move 0 2 0 3 1", "move 0 1 2 2 1",
                                         "move 0 2 1 3 1", "move 2 2 2 2 1"])
        self.refuse_rows("NoTree", desk, ["move 0 1 2 3 1", "move 0 1 1 3 1", "move 1 0 3 1 1"])

    def test_of_a_new_desk(self):
        desk = Desk()
        self.refuse_rows("NoPlace", desk, ["seat 1", "worth 1 0", "way 0 1", "length 0 1 5", "move 0 0 0 1 5"])
        self.refuse_rows("NoTie", desk, ["length 0 0 5", "move 0 0 0 0 5"])
        self.refuse_rows("NoForm", desk, ["tree\n", "rule", "seat", "seats "])
        self.refuse_rows("NoText", desk, ["tree ", "rule is "])

    def test_behind_a_refusal_the_rule_is_as_it_was(self):
        desk = self.made()
        for row in ("rule x", "rule is x", "rule is begin tie; over 1; join 1; told 1", "rule", "rule sum sum"):
            with self.assertRaises(ValueError):
                desk.say(row)
            self.talk(desk, ("tree 1 2 3 | 0-1:2 1-2:2", "ok"), ("seats", "33 213 51"), (TREE_ROW, "ok"))

    def test_behind_a_refusal_the_tree_is_as_it_was(self):
        desk = self.made()
        for row in ("tree x", "tree 1 2 | ", "tree 1 | \n", "worth 9 9", "length 0 2 9", "move 0 1 2 3 9",
                    "move 0 1 0 0 9"):
            with self.assertRaises(ValueError):
                desk.say(row)
            self.talk(desk, ("rule sum", "ok"), ("seats", "37 17 23 25"), ("rule piece", "ok"),
                      ("seats", "14 14 14 14"), ("tree", TREE_ROW[5:]))

    def test_all_rows_near_to_one(self):
        seen = set()
        for row in ("tree", "seats", "top", "seat 1", "worth 2 -30", "length 1 2 10", "move 1 2 0 2 -7", "way 0 3",
                    "rule sum", "rule best", "tree 4 -5 | 0-1:6", "tree 7 | ",
                    "rule is begin 1; over tie; join so0; told 2"):
            for near in near_texts(row, " \n-01239s|"):
                model, desk = DeskByHand(), self.made()
                model.say(TREE_ROW)
                model.say(FIGURES_ROW)
                before = self.state(desk)
                answer = model.say(near)
                if answer.startswith("No"):
                    seen.add(answer)
                    self.refuses(answer, desk.say, near)
                    self.same(self.state(desk), before)
                else:
                    self.same(desk.say(near), answer)
                    self.same(self.state(desk), self.state(model))
        self.assertEqual(seen, {"NoForm", "NoText", "NoTree", "NoRule", "NoName", "NoPlace", "NoTie"})


class OneAndAnother(DeskCase):
    def test_two_desks_know_nothing_of_one_another(self):
        one, other = Desk(), Desk()
        self.talk(one, (TREE_ROW, "ok"), ("rule sum", "ok"))
        self.talk(other, ("tree", "0 | "), ("seats", "0"), ("tree 1 2 | 0-1:3", "ok"), ("seats", "3 3"),
                  ("worth 0 9", "anew 1"), ("rule best", "ok"))
        self.talk(one, ("tree", TREE_ROW[5:]), ("seats", "37 17 23 25"), ("length 0 1 0", "anew 4"))
        self.talk(other, ("tree", "9 2 | 0-1:3"), ("seats", "9 9"))
        self.talk(Desk(), ("tree", "0 | "), ("seats", "0"))

    def test_say_stands_in_the_class_itself(self):
        self.assertIn("say", vars(Desk))


if __name__ == "__main__":
    unittest.main()
