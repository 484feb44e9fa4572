"""Texts that are read, and those that have not the form."""

import unittest

from sametolls.plans import is_shape, least_plan
from sametolls.reading import read_plan, read_sheet
from sametolls.sheets import Sheet
from sametolls.texts import plan_text, sheet_text
from sametolls.trees import Tree
from tests.support import EXAMPLE, ROW_OF_THREE, all_odd, error_of, some_sheets

TEXT = "clock 5\ntie 0 1\ntie 1 2\npost 2\nwant 1 0 0\nwant 4 4 4\npost 0\npost 1\nwant 0 1 1\n"
SHEET = Sheet(5, ROW_OF_THREE, (2, 0, 1), (((1, 0, 0), (4, 4, 4)), (), ((0, 1, 1),)))
PLAN_TEXT = ("over 0 1\nsay 1 0\nsay 0 1\nover 1 0\nsay 1\nover 1 2\nsay 0 1\nover 2 1\nsay 1\n"
             "at 0\nanswer 1 0 0\nanswer 4 4 4\nat 1\nat 2\nanswer 1 1\n")
NO_STRINGS = [thing for thing in all_odd() if not isinstance(thing, str)] + [0, 5, TEXT.encode(), [TEXT], (TEXT,),
                                                                             TEXT.split("\n"), {TEXT: 0}]
# Lines that can stand nowhere.
NO_LINES = ["", " ", "clock", "tie", "post", "over", "at", "clock 5 5", "tie 0", "tie 0 1 2", "post 1 1", "over 0",
            "over 0 1 1", "at 0 0", "Clock 5", "clock  5", " clock 5", "clock 5 ", "clock\t5", "\tclock 5", "clock 5\t",
            "clock 05", "clock 00", "clock +5", "clock -5", "clock 5.", "clock 1234567890", "clock 0000000005",
            "clock five", "clock 5,", "clock 1_0", "clock 0x5", "tie 0  1", "tie 0 01", "tie 0,1", "tie 00 1",
            "tie 0 -1", "tie 0\t1", "tie 0 1 ", " tie 0 1", "post 01", "post -0", "post +1", "post  1", "post 1 ",
            "post a", "post 1234567890", "ties 0 1", "posts 1", "wants 1", "want ", "want  1", "want 1 ", "want 1  1",
            "want 01", "want 1 00", "want -1", "want 1 +1", "want 1 a", "want 1234567890", "want\t1", "want 1\t",
            " want 1", "want,1", "say ", "say  1", "say 01", "say 1 -1", "say 1 ", " say 1", "says 1", "answer ",
            "answer  1", "answer 01", "answer 1 x", "answer 1\t1", "answers 1", "at  0", "at 00", "at 0 ", "at -1",
            "over  0 1", "over 0 01", "over 0 1 ", "over 0 x", "over 0 +1", "0", "1 2", "#", "clock5", "want1", "none"]
SHEET_LINES = ["clock 5", "tie 0 1", "post 1", "want 1 0 0", "want"]
PLAN_LINES = ["over 0 1", "say 1", "say", "at 0", "answer 1", "answer"]


def with_line(text, number, line):
    """A text with another line put in ahead of the one of this number."""
    lines = text.split("\n")
    return "\n".join(lines[:number - 1] + [line] + lines[number - 1:])


def instead(text, number, line):
    """A text with another line in the place of the one of this number."""
    lines = text.split("\n")
    return "\n".join(lines[:number - 1] + [line] + lines[number:])


def can_stand(line, ahead):
    """Whether a line of the right form can stand behind another one, None at the beginning."""
    word = line.split(" ")[0]
    ahead = ahead and ahead.split(" ")[0]
    return {"clock": ahead is None, "tie": ahead in ("clock", "tie"), "post": ahead in ("clock", "tie", "post", "want"),
            "want": ahead in ("post", "want"), "over": ahead in (None, "over", "say"), "say": ahead in ("over", "say"),
            "at": ahead in (None, "over", "say", "at", "answer"), "answer": ahead in ("at", "answer")}[word]


class Base(unittest.TestCase):
    def bad(self, line, text):
        self.assertEqual(error_of(read_sheet, text), ("BadText", {"line": line}), repr(text))

    def bad_plan(self, line, text, sheet=SHEET):
        self.assertEqual(error_of(read_plan, sheet, text), ("BadText", {"line": line}), repr(text))

    def no_plan(self, text, sheet=SHEET):
        self.assertEqual(error_of(read_plan, sheet, text), ("NoPlan", {}), repr(text))


class BadLines(Base):
    def test_the_texts_are_right(self):
        self.assertEqual(read_sheet(TEXT), SHEET)
        self.assertEqual(sheet_text(SHEET), TEXT)
        self.assertIs(is_shape(SHEET, read_plan(SHEET, PLAN_TEXT)), True)
        self.assertEqual(plan_text(SHEET, read_plan(SHEET, PLAN_TEXT)), PLAN_TEXT)

    def test_no_string(self):
        for thing in NO_STRINGS:
            self.bad(0, thing)
            self.bad_plan(0, thing)

    def test_no_line(self):
        self.bad(1, "")
        self.bad_plan(1, "")

    def test_lines_that_can_stand_nowhere(self):
        for line in NO_LINES:
            for number in range(1, 10):
                self.bad(number, with_line(TEXT, number, line))
                self.bad(number, instead(TEXT, number, line))
            for number in range(1, 16):
                self.bad_plan(number, with_line(PLAN_TEXT, number, line))
                self.bad_plan(number, instead(PLAN_TEXT, number, line))
            self.bad(10, TEXT + line + "\n")
            self.bad_plan(16, PLAN_TEXT + line + "\n")
            self.bad(1, line + "\n")
            self.bad_plan(1, line + "\n")

    def test_lines_of_plans_in_sheets_and_of_sheets_in_plans(self):
        for number in range(1, 10):
            for line in PLAN_LINES:
                self.bad(number, with_line(TEXT, number, line))
        for number in range(1, 16):
            for line in SHEET_LINES:
                self.bad_plan(number, with_line(PLAN_TEXT, number, line))

    def check_orders(self, text, lines, call, *args):
        """Each line ahead of each, and in the place of each: the first that can't stand there."""
        ahead = text.split("\n")[:-1]
        for number in range(1, len(ahead) + 1):
            for line in lines:
                for there in (ahead[:number - 1] + [line] + ahead[number - 1:], ahead[:number - 1] + [line]
                              + ahead[number:], ahead[:number - 1] + ahead[number:]):
                    wrong = [place + 1 for place in range(len(there))
                             if not can_stand(there[place], there[place - 1] if place else None)]
                    found = error_of(call, *args, "\n".join(there) + "\n")
                    if wrong:
                        self.assertEqual(found, ("BadText", {"line": wrong[0]}), there)
                    else:
                        self.assertNotEqual(found and found[0], "BadText", there)

    def test_all_lines_in_all_places(self):
        self.check_orders(TEXT, SHEET_LINES, read_sheet)
        self.check_orders(PLAN_TEXT, PLAN_LINES, read_plan, SHEET)

    def test_two_lines_of_any_kind(self):
        for one in SHEET_LINES:
            for other in SHEET_LINES:
                line = 1 if not can_stand(one, None) else 2 if not can_stand(other, one) else None
                found = error_of(read_sheet, f"{one}\n{other}\n")
                self.assertEqual(found == ("BadText", {"line": line}), line is not None)
        for one in PLAN_LINES:
            for other in PLAN_LINES:
                line = 1 if not can_stand(one, None) else 2 if not can_stand(other, one) else None
                found = error_of(read_plan, SHEET, f"{one}\n{other}\n")
                self.assertEqual(found == ("BadText", {"line": line}), line is not None)

    def test_the_clock_first_and_alone(self):
        self.bad(1, TEXT.partition("\n")[2])
        self.bad(2, "clock 5\n" + TEXT)
        self.bad(10, TEXT + "clock 5\n")
        self.bad(1, "post 0\nclock 5\n")

    def test_something_behind_the_last_line_feed(self):
        for end in ("x", " ", "post 0", "want 0 0 0", "\t", "clock 5"):
            self.bad(10, TEXT + end)
            self.bad(1, end)
        for end in ("x", " ", "at 2", "answer 0 0 0", "\t", "over 0 1"):
            self.bad_plan(16, PLAN_TEXT + end)
            self.bad_plan(1, end)
        self.bad(9, TEXT[:-1])
        self.bad(1, "clock 5")
        self.bad(2, "clock 5\npost 0")
        self.bad_plan(15, PLAN_TEXT[:-1])
        self.bad_plan(1, "at 0", Sheet(2, Tree(()), (0,), ((),)))

    def test_the_first_bad_line_is_told(self):
        self.bad(2, "clock 5\ntie 0\npost\nwant x\nrest")
        self.bad(3, "clock 5\ntie 0 1\n\npost 1\nrest")
        self.bad(1, "clock 4 4\n" + TEXT)
        self.bad_plan(3, "over 0 1\nsay 1 0\nanswer 1\nsay -1\nrest")
        self.bad_plan(2, "over 0 1\n\n")
        # A bad line comes ahead of a tree, a sheet or a plan that is none.
        self.bad(4, "clock 4\ntie 5 5\npost 9\ntie 0 1\n")
        self.bad_plan(3, "over 7 7\nat 9\nover 0 1\n")

    def test_nine_figures_and_ten(self):
        self.assertEqual(error_of(read_sheet, "clock 999999999\npost 0\n"), ("BadSheet", {"part": "clock"}))
        self.bad(1, "clock 1000000000\npost 0\n")
        self.assertEqual(error_of(read_sheet, "clock 5\npost 999999999\n"), ("BadSheet", {"part": "holds"}))
        self.bad(2, "clock 5\npost 1000000000\n")
        self.assertEqual(error_of(read_sheet, "clock 5\npost 1\nwant 999999999\n"), ("BadSheet", {"part": (0, 0)}))
        self.bad(3, "clock 5\npost 1\nwant 1000000000\n")
        self.assertEqual(error_of(read_sheet, "clock 5\ntie 0 999999999\npost 0\n"), ("BadTree", {"part": 0}))
        self.bad(2, "clock 5\ntie 0 1000000000\npost 0\n")
        self.no_plan("over 0 999999999\nat 0\n")
        self.bad_plan(1, "over 0 1000000000\nat 0\n")


class ReadSheets(Base):
    def test_kinds_of_what_is_read(self):
        found = read_sheet(TEXT)
        self.assertIsInstance(found, Sheet)
        self.assertIsInstance(found.tree, Tree)
        self.assertEqual(read_sheet("clock 2\npost 0\n"), Sheet(2, Tree(()), (0,), ((),)))
        self.assertEqual(read_sheet("clock 3\npost 0\nwant\nwant\n"), Sheet(3, Tree(()), (0,), (((), ()),)))

    def bad_tree(self, part, ties):
        self.assertEqual(error_of(read_sheet, "clock 4\n" + ties + "post 9\n"), ("BadTree", {"part": part}))

    def test_bad_tree_comes_first(self):
        self.bad_tree(0, "tie 1 0\n")
        self.bad_tree(0, "tie 0 0\n")
        self.bad_tree(0, "tie 0 2\n")
        self.bad_tree(1, "tie 0 1\ntie 0 1\n")
        self.bad_tree(1, "tie 1 2\ntie 0 1\n")
        self.bad_tree("pieces", "tie 0 1\ntie 0 2\ntie 1 2\n")
        self.bad_tree("ties", "".join(f"tie {post} {post + 1}\n" for post in range(24)))

    def bad_sheet(self, part, text):
        self.assertEqual(error_of(read_sheet, text), ("BadSheet", {"part": part}), text)

    def test_then_bad_sheet(self):
        self.bad_sheet("clock", "clock 4\npost 9\n")
        self.bad_sheet("clock", "clock 0\n")
        self.bad_sheet("holds", "clock 5\npost 9\n")
        self.bad_sheet("holds", "clock 5\n")
        self.bad_sheet("holds", "clock 5\ntie 0 1\npost 1\n")
        self.bad_sheet("holds", "clock 5\npost 0\npost 0\n")
        self.bad_sheet("wants", "clock 5\npost 1\n" + "want 1\n" * 9)
        self.bad_sheet((0, 0), "clock 5\npost 1\nwant 5\n")
        self.bad_sheet((0, 1), "clock 5\npost 2\nwant 1 1\nwant 1\n")
        self.bad_sheet((1, 0), "clock 5\ntie 0 1\npost 1\npost 1\nwant 1 1 1\n")
        self.bad_sheet((0, 0), "clock 5\npost 0\nwant 0\n")
        ties = "".join(f"tie {post} {post + 1}\n" for post in range(7))
        self.bad_sheet("many", "clock 5\n" + ties + ("post 0\n" + "want\n" * 8) * 8)

    def test_missing_lines(self):
        self.assertEqual(error_of(read_sheet, TEXT.replace("tie 0 1\n", "")), ("BadTree", {"part": 0}))
        self.bad_sheet("holds", TEXT.replace("tie 1 2\n", ""))
        self.bad_sheet("holds", TEXT.replace("post 0\n", ""))
        self.assertEqual(read_sheet(TEXT.replace("want 1 0 0\n", "")).wants, (((4, 4, 4),), (), ((0, 1, 1),)))


class ReadPlans(Base):
    def test_new_things_each_time(self):
        one, other = read_plan(SHEET, PLAN_TEXT), read_plan(SHEET, PLAN_TEXT)
        self.assertEqual(one, other)
        self.assertIsNot(one[0], other[0])
        self.assertIsInstance(one, tuple)
        self.assertIsInstance(one[0], dict)
        self.assertIsInstance(one[1], tuple)
        self.assertEqual(one[0][0, 1], ((1, 0), (0, 1)))
        self.assertEqual(one[1], (((1, 0, 0), (4, 4, 4)), (), ((1, 1),)))

    def test_a_single_post(self):
        alone = Sheet(3, Tree(()), (1,), (((2,),),))
        self.assertEqual(read_plan(alone, "at 0\nanswer 2\n"), ({}, (((2,),),)))
        self.no_plan("at 0\n", alone)
        self.no_plan("at 0\nanswer 3\n", alone)
        self.no_plan("at 1\nanswer 2\n", alone)
        self.no_plan("over 0 1\nat 0\nanswer 2\n", alone)
        self.no_plan("at 0\nanswer 2\nat 0\nanswer 2\n", alone)

    def test_ways_lacking_twice_in_another_order_or_others(self):
        self.no_plan(PLAN_TEXT.replace("over 1 0\nsay 1\n", ""))
        self.no_plan(PLAN_TEXT.replace("over 1 0\nsay 1\n", "over 1 0\nsay 1\nover 1 0\nsay 1\n"))
        self.no_plan(PLAN_TEXT.replace("over 2 1\n", "over 2 1\nsay 1\nover 2 1\n"))
        self.no_plan(PLAN_TEXT.replace("over 1 2\nsay 0 1\nover 2 1\nsay 1\n", "over 2 1\nsay 1\nover 1 2\nsay 0 1\n"))
        self.no_plan(PLAN_TEXT.replace("over 2 1\n", "over 2 0\n"))
        self.no_plan(PLAN_TEXT.replace("over 2 1\nsay 1\n", "over 2 1\nsay 1\nover 2 3\n"))
        self.no_plan(PLAN_TEXT[PLAN_TEXT.index("at 0"):])

    def test_posts_lacking_twice_in_another_order_or_others(self):
        self.no_plan(PLAN_TEXT.replace("at 1\n", ""))
        self.no_plan(PLAN_TEXT.replace("at 1\n", "at 1\nat 1\n"))
        self.no_plan(PLAN_TEXT.replace("at 1\nat 2\nanswer 1 1\n", "at 2\nanswer 1 1\nat 1\n"))
        self.no_plan(PLAN_TEXT.replace("at 1\n", "at 3\n"))
        self.no_plan(PLAN_TEXT + "at 3\n")
        self.no_plan(PLAN_TEXT[:PLAN_TEXT.index("at 0")])

    def test_other_shapes(self):
        self.no_plan(PLAN_TEXT.replace("say 0 1\n", "say 0 5\n"))
        self.no_plan(PLAN_TEXT.replace("say 1 0\n", "say 1\n"))
        self.no_plan(PLAN_TEXT.replace("answer 1 1\n", "answer 1\n"))
        self.no_plan(PLAN_TEXT.replace("answer 1 1\n", "answer 1 1\nanswer 1 1\n"))
        self.no_plan(PLAN_TEXT.replace("answer 4 4 4\n", ""))
        self.no_plan(PLAN_TEXT, EXAMPLE)
        self.no_plan(PLAN_TEXT.replace("over 2 1\nsay 1\n", "over 2 1\n"))

    def test_sixty_lines_and_sixty_one(self):
        sheet = Sheet(2, Tree(((0, 1),)), (1, 1), ((), ()))
        for many in (60, 61):
            text = "over 0 1\n" + "say 1\n" * many + "over 1 0\nat 0\nat 1\n"
            self.assertEqual(error_of(read_plan, sheet, text), None if many == 60 else ("NoPlan", {}))

    def test_plans_of_other_sheets(self):
        sheets = some_sheets(541, 12, 5, 2, 2, (2, 999983))
        for sheet in sheets:
            for other in sheets:
                plan = least_plan(other)
                found = error_of(read_plan, sheet, plan_text(other, plan))
                self.assertEqual(found, None if is_shape(sheet, plan) else ("NoPlan", {}))


if __name__ == "__main__":
    unittest.main()
