"""A desk: its lines, what they tell, and what is no line."""

import unittest

from sametolls.desks import Desk
from sametolls.nets import Net
from sametolls.texts import sheet_text
from sametolls.tolls import tolls
from sametolls.trees import ways
from tests.support import EXAMPLE, Dice, all_odd, all_wanted, error_of, great_sheet, some_sheets
from tests.test_nets import Account, some_change

TEXT = "clock 5;tie 0 1;tie 1 2;post 1;want 1 0 0;post 1;want 1 1 0;post 1;want 0 1 1;"
WORDS = {"set_want": "want", "add_want": "more", "drop_want": "drop", "add_number": "hold", "drop_number": "lose",
         "add_post": "grow", "drop_post": "cut", "set_value": "put"}
# A line of each form that can be told at a desk with the example under the name a, and a tale w.
GOOD = ["want a 1 0 1,1,1", "more a 0 0,0,4", "drop a 0 0", "hold a 1 4", "lose a 0", "grow a 2", "put a 1 0", "back a",
        "again a", "mark a one", "goto a one", "toll a 0 1", "sum a", "answers a", "given a", "deeds a", "text a",
        "anew a 0,2", "anew a -", "do w"]


def desk_with(sheet=EXAMPLE, name="a"):
    """A desk with a net."""
    desk = Desk()
    desk.tell(f"net {name} {text_of(sheet)}")
    return desk


def text_of(sheet):
    """The text of a sheet on one line."""
    return sheet_text(sheet).replace("\n", ";")


def ready_desk():
    """A desk at which each of the good lines can be told."""
    desk = desk_with()
    desk.tell("tale w sum a;")
    for line in ("put a 0 1", "put a 0 2", "mark a one", "back a"):
        desk.tell(line)
    return desk


def joined(values):
    """Values with commas between."""
    return ",".join(map(str, values)) or "-"


def looked(desk, name):
    """All that a desk tells of a net."""
    return [desk.tell(f"{word} {name}") for word in ("text", "given", "answers", "sum", "deeds")]


def line_of(name, change):
    """The line that does a change."""
    word, *told = change
    return " ".join([WORDS[word], name] + [joined(part) if isinstance(part, tuple) else str(part) for part in told])


class Lines(unittest.TestCase):
    def check(self, desk, name, account, deeds):
        """Whether all that a desk tells of a net is as it should be."""
        sheet, given = account.sheet(), account.given()
        least = tolls(sheet)
        for (here, there), toll in least.items():
            self.assertEqual(desk.tell(f"toll {name} {here} {there}"), str(toll))
        self.assertEqual(desk.tell(f"sum {name}"), str(sum(least.values())))
        self.assertEqual(desk.tell(f"answers {name}"), ";".join(joined(own) for own in all_wanted(sheet, given)))
        self.assertEqual(desk.tell(f"given {name}"), joined(given))
        self.assertEqual(desk.tell(f"deeds {name}"), str(deeds))
        self.assertEqual(desk.tell(f"text {name}"), text_of(sheet))
        lot = tuple(range(0, sheet.numbers, 2))
        anew = Net(sheet, given).anew(lot)
        self.assertEqual(desk.tell(f"anew {name} {joined(lot)}"), str(sum(anew.values())))

    def test_drawn_changes_of_two_nets(self):
        dice = Dice(1301)
        for sheet in some_sheets(1302, 12, 4, 2, 2, (2, 5, 999983)):
            desk = Desk()
            accounts = {}
            for name in ("a", "netnetne"):
                self.assertEqual(desk.tell(f"net {name} {text_of(sheet)}"), "ok")
                accounts[name] = Account(sheet, (0,) * sheet.numbers)
                self.check(desk, name, accounts[name], 0)
            for number in range(1, 16):
                for name, account in accounts.items():
                    change = some_change(dice, account.sheet())
                    while change[0] == "set_values":
                        change = some_change(dice, account.sheet())
                    self.assertEqual(desk.tell(line_of(name, change)), "ok")
                    account.do(*change)
                    self.check(desk, name, account, number)

    def test_back_again_mark_and_goto(self):
        desk = desk_with()
        for line in ("put a 0 1", "mark a there", "grow a 0", "hold a 3 4", "back a"):
            self.assertEqual(desk.tell(line), "ok")
        self.assertEqual((desk.tell("given a"), desk.tell("deeds a")), ("1,0,0", "2"))
        self.assertEqual(desk.tell("again a"), "ok")
        self.assertEqual(desk.tell("given a"), "1,0,0,4")
        self.assertEqual(desk.tell("goto a there"), "ok")
        self.assertEqual((desk.tell("text a"), desk.tell("given a")), (TEXT, "1,0,0"))
        desk.tell("back a")
        self.assertEqual(desk.tell("given a"), "0,0,0")
        desk.tell("put a 2 4")
        self.assertEqual(error_of(desk.tell, "goto a there"), ("NoMark", {"name": "there"}))
        self.assertEqual(error_of(desk.tell, "again a"), ("NothingDone", {}))
        desk.tell("back a")
        self.assertEqual(error_of(desk.tell, "back a"), ("NothingDone", {}))

    def test_known_ones(self):
        desk = desk_with()
        for line in ("put a 0 1", "put a 1 2", "put a 2 3"):
            self.assertEqual(desk.tell(line), "ok")
        self.assertEqual(desk.tell("answers a"), "1;3;0")
        self.assertEqual(desk.tell("given a"), "1,2,3")
        self.assertEqual([desk.tell(f"toll a {way}") for way in ("0 1", "1 0", "1 2", "2 1")], ["1", "0", "1", "0"])
        self.assertEqual((desk.tell("sum a"), desk.tell("deeds a"), desk.tell("text a")), ("2", "3", TEXT))
        self.assertEqual([desk.tell(f"anew a {lot}") for lot in ("-", "0", "1", "2", "0,1", "0,1,2")],
                         ["0", "1", "1", "0", "2", "2"])
        self.assertEqual(desk.tell("more a 2 4,0,0"), "ok")
        self.assertEqual(desk.tell("answers a"), "1;3;0,4")
        self.assertEqual(desk.tell("drop a 0 0"), "ok")
        self.assertEqual(desk.tell("answers a"), "-;3;0,4")

    def test_nothing_held_and_nothing_wanted(self):
        desk = Desk()
        self.assertEqual(desk.tell("net n clock 2;post 0;"), "ok")
        self.assertEqual((desk.tell("answers n"), desk.tell("given n"), desk.tell("sum n")), ("-", "-", "0"))
        self.assertEqual((desk.tell("anew n -"), desk.tell("text n")), ("0", "clock 2;post 0;"))
        self.assertEqual(desk.tell("more n 0 -"), "ok")
        self.assertEqual((desk.tell("answers n"), desk.tell("text n")), ("0", "clock 2;post 0;want;"))
        self.assertEqual(desk.tell("want n 0 0 -"), "ok")
        self.assertEqual(desk.tell("hold n 0 1"), "ok")
        self.assertEqual(desk.tell("text n"), "clock 2;post 1;want 0;")
        self.assertEqual(error_of(desk.tell, "want n 0 0 -"), ("NoRow", {}))

    def test_a_net_in_the_place_of_an_elder_one(self):
        desk = desk_with()
        desk.tell("put a 0 1")
        desk.tell("mark a one")
        self.assertEqual(desk.tell("net a clock 3;post 2;want 2 1;"), "ok")
        self.assertEqual(looked(desk, "a"), ["clock 3;post 2;want 2 1;", "0,0", "0", "0", "0"])
        self.assertEqual(error_of(desk.tell, "goto a one"), ("NoMark", {"name": "one"}))

    def test_two_desks_know_nothing_of_one_another(self):
        desk = desk_with()
        self.assertEqual(error_of(Desk().tell, "sum a"), ("NoName", {"name": "a"}))
        self.assertEqual(desk.tell("sum a"), "2")

    def test_a_great_net(self):
        sheet = great_sheet()
        desk = desk_with(sheet, "great")
        self.assertEqual(desk.tell("sum great"), str(sum(tolls(sheet).values())))
        self.assertEqual(desk.tell("text great"), text_of(sheet))
        self.assertEqual(len(ways(sheet.tree)), 46)

    def test_same_names_of_nets_tales_and_marks(self):
        desk = desk_with()
        desk.tell("tale a sum a;")
        desk.tell("mark a a")
        self.assertEqual((desk.tell("do a"), desk.tell("sum a"), desk.tell("goto a a")), ("2", "2", "ok"))


class NoLines(unittest.TestCase):
    def bad(self, told, kind="NoLine", **fields):
        desk = ready_desk()
        before = looked(desk, "a")
        self.assertEqual(error_of(desk.tell, told), (kind, fields), told)
        self.assertEqual(looked(desk, "a"), before)
        self.assertEqual(desk.tell("again a"), "ok")
        self.assertEqual((desk.tell("goto a one"), desk.tell("do w")), ("ok", "2"))

    def test_all_good_lines_are_told(self):
        for line in GOOD:
            self.assertIsInstance(ready_desk().tell(line), str)

    def test_what_is_no_string(self):
        for thing in all_odd() + [["sum", "a"], ("sum a",), b"sum a", {"sum": "a"}]:
            self.bad(thing)

    def test_words_left_out_twice_and_exchanged(self):
        for line in GOOD:
            words = line.split(" ")
            for at in range(len(words)):
                self.bad(" ".join(words[:at] + words[at + 1:]))
                self.bad(" ".join(words[:at] + [words[at]] + words[at:]))
            for at in range(len(words) - 1):
                other = words[:at] + [words[at + 1], words[at]] + words[at + 2:]
                if len({word.isdigit() for word in words[at:at + 2]}) == 2 or at == 0:
                    self.bad(" ".join(other))
            self.bad(line + " 0")
            self.bad(line + " a")
            self.bad("do " + line)

    def test_blanks_tabs_and_line_feeds(self):
        for line in GOOD:
            for other in (" " + line, line + " ", line.replace(" ", "  ", 1), line.replace(" ", "\t", 1), line + "\n",
                          "\n" + line, line.replace(" ", "\n", 1), line + "\t", "\t" + line, line.replace(" ", "", 1),
                          line + ";", line + "\nsum a", line.replace(" ", "_")):
                self.bad(other)
        for line in ("", " ", "\n", "\t", ";", "  ", "ok", "end", "else", "repeat 2", "each x 0 1", "when a 0 1 1",
                     "toll a $x 1", "put a $a $b", "copy a", "plan a", "rows a 0 1", "undo a", "net", "tale", "do"):
            self.bad(line)

    def test_numbers_that_have_no_form(self):
        for line in GOOD:
            words = line.split(" ")
            for at, word in enumerate(words):
                if not word.isdigit():
                    continue
                for other in ("0" + word, "00", "+" + word, "-" + word, word + ".0", "1000000000", "0x1", "1e0", "x",
                              "$x", "1_0", "", word + ",", "," + word, "-", word + " ", "\t" + word, "one", "1,1", "-0"):
                    self.bad(" ".join(words[:at] + [other] + words[at + 1:]))
        for number in ("999999999", "100000000"):
            self.bad(f"toll a 0 {number}", "NoWay")
            self.bad(f"put a {number} 0", "NoNumber")

    def test_rows_that_have_no_form(self):
        for line in ("want a 1 0", "more a 1", "anew a"):
            for row in ("", ",", "1,", ",1", "1,,1", "01,1,1", "1,1,+1", "1,1,-1", "--", "-,1", "1;1;1", "1, 1,1", "$x",
                        "1,$x,1", "1,1000000000,1", "1 1 1", "(1,1,1)", "1,1,x", "1,1,1.", "1\t1", "00", "1,1,00"):
                self.bad(f"{line} {row}")
        self.bad("want a 1 0 1,999999999,1", "NoRow")
        self.bad("anew a 0,999999999", "NoLot")

    def test_names_that_have_no_form(self):
        for line in GOOD:
            words = line.split(" ")
            for name in ("A", "aB", "abcdefghi", "a1", "1", "", "-", "a_b", "$a", "a,b", "a.", "a;", "\ta", "`", "{"):
                self.bad(" ".join([words[0], name] + words[2:]))
                if words[0] in ("mark", "goto"):
                    self.bad(" ".join(words[:2] + [name]))
        for word in ("net", "tale"):
            for name in ("A", "abcdefghi", "a1", "1", "-", "$a", "a;", "\ta", ""):
                self.bad(f"{word} {name} {TEXT}")
            for line in (f"{word} a", f"{word} a ", f"{word}", f"{word} ", f"{word}  a {TEXT}", f"{word} a{TEXT}\n",
                         f"{word}a {TEXT}", f" {word} a {TEXT}", f"{word}\ta {TEXT}", f"{word} a\t{TEXT}",
                         f"{word} a {TEXT}\n", f"{word} a sum a\n", f"{word.upper()} a {TEXT}"):
                self.bad(line)

    def test_names_under_which_nothing_is_kept(self):
        for line in GOOD:
            words = line.split(" ")
            for name in ("b", "w" if words[0] != "do" else "a", "aa", "abcdefgh"):
                self.bad(" ".join([words[0], name] + words[2:]), "NoName", name=name)
        # Names are asked for ahead of what the functions raise.
        for line in ("toll b 0 9", "want b 9 9 -", "goto b none", "put b 9 9", "cut b 0", "anew b 9,1"):
            self.bad(line, "NoName", name="b")

    def test_what_the_functions_raise(self):
        for line, kind in (("want a 3 0 1,1,1", "NoPost"), ("want a 0 1 1,1,1", "NoWant"), ("want a 0 0 1,1", "NoRow"),
                           ("want a 0 0 1,1,5", "NoRow"), ("want a 0 0 -", "NoRow"), ("more a 3 1,1,1", "NoPost"),
                           ("more a 0 1", "NoRow"), ("drop a 0 1", "NoWant"), ("hold a 3 0", "NoPost"),
                           ("hold a 0 5", "NoValue"), ("lose a 3", "NoNumber"), ("grow a 3", "NoPost"),
                           ("cut a 3", "NoPost"), ("cut a 0", "NotEmpty"), ("put a 3 0", "NoNumber"),
                           ("put a 0 5", "NoValue"), ("toll a 0 2", "NoWay"), ("toll a 0 0", "NoWay"),
                           ("anew a 3", "NoLot"), ("anew a 1,0", "NoLot"), ("anew a 0,0", "NoLot")):
            self.bad(line, kind)
        self.bad("goto a two", "NoMark", name="two")

    def test_texts_that_are_none(self):
        for text, line in (("clock 5", 1), ("clock 5;", None), ("clock 5;post 1", 2), ("clock 5;post x;", 2), (";", 1),
                           ("clock 5;post 1;want 1 0", 3), (" clock 5;post 0;", 1), ("clock 5;post 0;;", 3), ("x", 1),
                           ("clock 5;post 0; ", 3), ("clock 05;post 0;", 1), ("clock  5;post 0;", 1)):
            if line is None:
                self.bad(f"net a {text}", "BadSheet", part="holds")
            else:
                self.bad(f"net a {text}", "BadText", line=line)
                self.bad(f"net new {text}", "BadText", line=line)
        self.bad("net a clock 4;post 0;", "BadSheet", part="clock")
        self.bad("net a clock 5;tie 1 0;post 0;post 0;", "BadTree", part=0)
        self.bad("net a clock 5;post 1;want 5;", "BadSheet", part=(0, 0))

    def test_a_net_that_was_none_is_not_kept(self):
        desk = Desk()
        self.assertEqual(error_of(desk.tell, "net a clock 4;post 0;")[0], "BadSheet")
        self.assertEqual(error_of(desk.tell, "sum a"), ("NoName", {"name": "a"}))
        self.assertEqual(error_of(desk.tell, "tale a sum;")[0], "BadTale")
        self.assertEqual(error_of(desk.tell, "do a"), ("NoName", {"name": "a"}))


if __name__ == "__main__":
    unittest.main()
