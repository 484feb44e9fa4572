"""Tales of a desk: their forms, doing them, and when they are not done at all."""

import unittest

from sametolls.desks import Desk
from sametolls.errors import TollError
from tests.support import Dice, error_of
from tests.test_desks import TEXT, looked

ASKED = ("toll", "sum", "answers", "given", "deeds", "text", "anew")


def desk_with(**tales):
    """A desk with a net a, a net b, and tales."""
    desk = Desk()
    for line in (f"net a {TEXT}", "net b clock 2;tie 0 1;post 1;post 0;want 1;", "put a 0 1", "mark a one"):
        desk.tell(line)
    for word, text in tales.items():
        desk.tell(f"tale {word} {text}")
    return desk


def state(desk):
    """All that a desk tells of its two nets."""
    return looked(desk, "a") + looked(desk, "b")


class Broken(Exception):
    """What ends an own going through a tale: the kind of the error, and a line."""


class Going:
    """An own going through tales: lines that can be told at once are told at another desk."""

    def __init__(self, desk, tales):
        self.desk = desk
        self.tales = tales
        self.spent = 0
        self.told = []
        self.done = []

    def spend(self):
        self.spent += 1
        if self.spent > 2000:
            raise Broken("TooLong", None)

    def tale(self, word, depth):
        if word not in self.tales:
            raise Broken("NoName", None)
        if depth == 9:
            raise Broken("TooLong", None)
        lines = self.tales[word].split(";")[:-1]
        self.block(lines, 0, len(lines), {}, depth)

    def block(self, lines, at, end, letters, depth):
        while at < end:
            words = [str(letters[word[1]]) if word[0] == "$" else word for word in lines[at].split(" ")]
            if words[0] in ("repeat", "each", "when"):
                close, turn = matching(lines, at)
                self.opened(words, lines, at, turn, close, letters, depth)
                at = close + 1
            else:
                self.line(words, at + 1, depth)
                at += 1

    def opened(self, words, lines, at, turn, close, letters, depth):
        if words[0] == "repeat":
            for _ in range(min(int(words[1]), 3000)):
                self.spend()
                self.block(lines, at + 1, close, letters, depth)
        elif words[0] == "each":
            for number in range(int(words[2]), min(int(words[3]), int(words[2]) + 3000) + 1):
                self.spend()
                self.block(lines, at + 1, close, {**letters, words[1]: number}, depth)
        else:
            self.spend()
            toll = self.tell("toll " + " ".join(words[1:4]), at + 1)
            if int(toll) >= int(words[4]):
                self.block(lines, at + 1, close if turn is None else turn, letters, depth)
            elif turn is not None:
                self.block(lines, turn + 1, close, letters, depth)

    def line(self, words, number, depth):
        self.spend()
        if words[0] == "do":
            try:
                self.tale(words[1], depth + 1)
            except Broken as broken:
                if broken.args[0] == "TooLong":
                    raise
                raise Broken("Failed", number) from None
            return
        told = self.tell(" ".join(words), number)
        if words[0] in ASKED:
            self.told.append(told)

    def tell(self, line, number):
        try:
            told = self.desk.tell(line)
        except TollError:
            raise Broken("Failed", number) from None
        self.done.append(line)
        return told


def matching(lines, at):
    """The line that closes one, and the else between, if there is one."""
    deep, turn = 0, None
    for number in range(at, len(lines)):
        word = lines[number].split(" ")[0]
        if word in ("repeat", "each", "when"):
            deep += 1
        if word == "else" and deep == 1:
            turn = number
        if word == "end":
            deep -= 1
            if deep == 0:
                return number, turn
    return None


def some_tale(dice, deep, letters, words):
    """The lines of a tale, drawn."""
    found = []
    for _ in range(1 + dice.below(4)):
        kind = dice.below(12)
        number = "$" + letters[dice.below(len(letters))] if letters and dice.below(2) else str(dice.below(3))
        other = "$" + letters[dice.below(len(letters))] if letters and dice.below(3) == 0 else str(dice.below(3))
        if kind == 0 and deep:
            found += [f"repeat {number}"] + some_tale(dice, deep - 1, letters, words) + ["end"]
        elif kind in (1, 2) and deep:
            letter = "xyz"[dice.below(3)]
            found += [f"each {letter} {number} {other}"] + some_tale(dice, deep - 1, letters + letter, words) + ["end"]
        elif kind in (3, 4) and deep:
            way = ("0 1", "1 0", "1 2", "2 1")[dice.below(4)]
            found += [f"when a {way} {number}"] + some_tale(dice, deep - 1, letters, words)
            found += (["else"] + some_tale(dice, deep - 1, letters, words) if dice.below(2) else []) + ["end"]
        elif kind == 5 and words:
            found.append(f"do {words[dice.below(len(words))]}")
        else:
            line = ("put a {} {}", "want a {} 0 1,0,2", "want a {} 0 0,1,1", "want a {} 0 4,4,0", "toll b 0 1", "sum a",
                    "answers a", "deeds b", "anew a 0,2", "grow b 0", "put b 0 1", "back a", "toll a {} 1", "given a",
                    "mark a one")[dice.below(15)]
            found.append(line.format(number, other))
    return found


class Led(unittest.TestCase):
    def test_drawn_tales_by_an_own_going(self):
        dice = Dice(1401)
        kinds = []
        for _ in range(60):
            desk, lines = desk_with(), []
            tales = {}
            for word in ("p", "q", "r"):
                tales[word] = "".join(line + ";" for line in some_tale(dice, 3, "", [*tales] * (dice.below(3) > 0)))
                self.assertEqual(desk.tell(f"tale {word} {tales[word]}"), "ok")
            for word in ("p", "q", "r", "q"):
                other = desk_with()
                for line in lines:
                    other.tell(line)
                going = Going(other, tales)
                before = state(desk)
                self.assertEqual(state(other), before)
                try:
                    going.tale(word, 1)
                except Broken as broken:
                    kind, number = broken.args
                    fields = {"line": number} if kind == "Failed" else {}
                    self.assertEqual(error_of(desk.tell, f"do {word}"), (kind, fields), tales[word])
                    self.assertEqual(state(desk), before)
                    kinds.append(kind)
                    continue
                self.assertEqual(desk.tell(f"do {word}"), "/".join(going.told) or "ok")
                self.assertEqual(state(desk), state(other))
                lines += going.done
                kinds.append("ok")
        self.assertGreater(kinds.count("ok"), 60)
        self.assertGreater(kinds.count("Failed"), 20)

    def test_what_is_told(self):
        desk = desk_with(w="sum a;put a 1 4;given a;toll a 0 1;answers a;deeds a;text b;anew a 0;mark a x;back a;again a;",
                         v="put a 1 3;")
        text = desk.tell("text b")
        self.assertEqual(desk.tell("do w"), f"2/1,4,0/1/1;0;4/2/{text}/1")
        self.assertEqual(desk.tell("do v"), "ok")
        self.assertEqual(desk.tell("given a"), "1,3,0")

    def test_repeat_and_each(self):
        desk = desk_with(w="repeat 3;grow a 0;end;text a;", v="each x 1 3;put a 1 $x;given a;end;",
                         u="each x 2 1;sum a;end;each x 1 1;deeds a;end;repeat 0;sum a;end;",
                         t="each x 0 1;each y 1 2;when a $x $y 1;toll a $x $y;else;toll a $y $x;end;end;end;")
        self.assertEqual(desk.tell("do v"), "1,1,0/1,2,0/1,3,0")
        self.assertEqual(desk.tell("do u"), "4")
        self.assertEqual(error_of(desk.tell, "do t"), ("Failed", {"line": 3}))
        self.assertIn("tie 0 3;tie 0 4;tie 0 5;tie 1 2;", desk.tell("do w"))

    def test_letters_within_one_another(self):
        desk = desk_with(w="each x 0 1;put a 0 $x;each x 2 3;put a 1 $x;given a;end;put a 2 $x;given a;end;",
                         v="each x 1 2;each y $x 2;each x $y 2;put a $x $y;end;end;end;given a;")
        self.assertEqual(desk.tell("do w"), "0,2,0/0,3,0/0,3,0/1,2,0/1,3,0/1,3,1")
        desk = desk_with(v="each x 1 2;each y $x 2;each x $y 2;put a $x $y;end;put a 0 $x;end;end;given a;")
        self.assertEqual(desk.tell("do v"), "2,1,2")

    def test_letters_in_all_places_of_a_number(self):
        desk = desk_with(w="each k 0 0;want a $k $k 0,0,0;more a $k 1,1,1;drop a $k 1;hold a $k $k;lose a $k;grow a $k;"
                           "cut a 3;put a $k $k;toll a $k 1;when a $k 1 $k;repeat $k;sum a;end;each z $k $k;deeds a;end;"
                           "end;end;")
        self.assertEqual(desk.tell("do w"), "0/9")

    def test_when(self):
        for most, told in ((0, "2"), (1, "2"), (2, "1")):
            for text, other in ((f"when a 0 1 {most};sum a;else;deeds a;end;", told),
                                (f"when a 0 1 {most};sum a;end;", told if told == "2" else "ok"),
                                (f"when a 0 1 {most};else;deeds a;end;", "ok" if told == "2" else told)):
                self.assertEqual(desk_with(w=text).tell("do w"), other)
        # What is looked at is the net as it is then.
        desk = desk_with(w="repeat 2;when a 0 1 1;want a 1 0 0,0,0;sum a;else;want a 1 0 1,1,0;given a;end;end;")
        self.assertEqual(desk.tell("do w"), "1/1,0,0")

    def test_tales_within_tales(self):
        desk = desk_with(u="sum a;", v="do u;deeds a;do u;", w="do v;put a 0 2;do v;")
        self.assertEqual(desk.tell("do w"), "2/1/2/2/2/2")
        # A tale is taken as it is when it is done.
        desk.tell("tale u given a;")
        self.assertEqual(desk.tell("do v"), "2,0,0/2/2,0,0")
        self.assertEqual(desk_with(w="mark a two;do v;", v="back a;again a;").tell("do w"), "ok")

    def test_blocks_without_lines(self):
        self.assertEqual(desk_with(w="repeat 2;end;each x 0 1;end;when a 0 1 1;else;end;").tell("do w"), "ok")


class BadTales(unittest.TestCase):
    def bad(self, text, line):
        desk = desk_with(w="sum a;")
        before = state(desk)
        self.assertEqual(error_of(desk.tell, f"tale w {text}"), ("BadTale", {"line": line}), text)
        self.assertEqual(error_of(desk.tell, f"tale new {text}"), ("BadTale", {"line": line}), text)
        self.assertEqual(desk.tell("do w"), "2")
        self.assertEqual(error_of(desk.tell, "do new"), ("NoName", {"name": "new"}))
        self.assertEqual(state(desk), before)

    def good(self, text):
        self.assertEqual(desk_with().tell(f"tale w {text}"), "ok", text)

    def test_lines_that_have_no_form(self):
        for line in ("", "sum", "sum  a", " sum a", "sum a ", "sum\ta", "Sum a", "sum a b", "toll a 0", "toll a 0 01",
                     "toll a 0 +1", "toll a 0 1000000000", "tale v sum a", "net c clock 2", "net", "tale", "repeat",
                     "repeat 1 2", "repeat x", "repeat 01", "repeat -", "repeat 1,2", "each x 0", "each 0 1", "each xy 0 1",
                     "each X 0 1", "each x 0 1 2", "each 1 0 1", "each $x 0 1", "each x 00 1", "each x - 1", "when a 0 1",
                     "when a 0 1 2 3", "when 0 1 1", "when A 0 1 1", "when a 0,1 1", "when a 0 1 01", "do", "do a b", "do $x",
                     "do A", "else 1", "end 1", "ends", "elses", "end ", " end", "else ", "want a 0 0", "anew a", "anew a $x",
                     "want a 0 0 $x", "more a 0 1,$x,1", "put a $ 1", "put a $1 1", "put a x 1", "put $a 0 1", "mark a $x",
                     "ok", "#"):
            self.bad(f"{line};", 1)
            self.bad(f"sum a;{line};sum;", 2)
            self.bad(f"each x 0 1;sum a;{line};end;", 3)
            self.bad(f"{line};sum a", 1)

    def test_letters_that_stand_for_nothing(self):
        for line in ("put a $x 1", "toll a 0 $x", "repeat $x", "each y $x 1", "each x $x 1", "when a 0 1 $x", "lose a $x"):
            more = "end;" if line.split(" ")[0] in ("repeat", "each", "when") else ""
            self.bad(f"{line};{more}", 1)
            self.bad(f"each y 0 1;{line};{more}end;", 2)
            self.bad(f"each x 0 1;end;{line};{more}", 3)
            self.bad(f"repeat 2;each x 0 1;end;sum a;{line};{more}end;", 5)
            self.good(f"each x 0 1;{line};{more}end;")
            self.good(f"each x 0 1;repeat 2;when a 0 1 1;{line};{more}else;{line};{more}end;end;end;")
            self.good(f"each x 0 1;each x 0 1;end;{line};{more}end;")
        self.bad("each x 0 1;put a $y 1;end;", 2)
        self.bad("each x 0 1;put a $xx 1;end;", 2)
        self.bad("each x 0 1;put a $X 1;end;", 2)
        self.bad("each x 0 1;put a $ 1;end;", 2)
        self.bad("each x 0 1;put a $$x 1;end;", 2)
        for word in ("x", "xx", "1x", "-x", "&x", "$x0", "0$x", "x$"):
            self.bad(f"each x 0 1;put a {word} 1;end;", 2)
        self.bad("each x 0 1;want a 0 0 $x;end;", 2)
        self.bad("each x 0 1;anew a $x;end;", 2)
        self.bad("each x 0 1;do $x;end;", 2)
        self.bad("each x 0 1;put $x 0 1;end;", 2)

    def test_lines_that_cannot_stand_there(self):
        self.bad("end;", 1)
        self.bad("sum a;end;", 2)
        self.bad("repeat 1;end;end;", 3)
        self.bad("else;", 1)
        self.bad("repeat 1;else;end;", 2)
        self.bad("each x 0 1;else;end;", 2)
        self.bad("when a 0 1 1;else;else;end;", 3)
        for line in ("else 1", "else ", "else else", "else when a 0 1 1", " else"):
            self.bad(f"when a 0 1 1;{line};end;", 2)
        for line in ("end 1", "end ", "end end", " end"):
            self.bad(f"when a 0 1 1;{line};end;", 2)
        self.bad("when a 0 1 1;sum a;else;sum a;else;end;", 5)
        self.bad("when a 0 1 1;repeat 1;else;end;end;", 3)
        self.bad("when a 0 1 1;end;else;", 3)
        self.good("when a 0 1 1;when a 0 1 1;else;end;else;when a 0 1 1;else;end;end;")

    def test_an_end_that_lacks_and_what_stands_behind(self):
        self.bad("sum a", 1)
        self.bad("sum a;sum a", 2)
        self.bad("sum a;x", 2)
        self.bad("sum a; ", 2)
        self.bad("sum a;end", 2)
        self.bad("repeat 1;", 2)
        self.bad("repeat 1;sum a;", 3)
        self.bad("repeat 1;end", 2)
        self.bad("repeat 1;sum a;each x 0 1;end;", 5)
        self.bad("when a 0 1 1;else;", 3)
        self.bad(";", 1)
        self.bad("sum a;;", 2)
        self.bad("x", 1)
        self.bad(";x", 1)
        # The first line that is bad comes ahead of what lacks.
        self.bad("repeat 1;sum;", 2)
        self.bad("repeat 1;sum;x", 2)

    def test_eight_lines_open_and_nine(self):
        for heads in (["repeat 1"] * 9, ["when a 0 1 1"] * 9, [f"each {letter} 0 1" for letter in "abcdefghi"],
                      ["repeat 1", "each x 0 1", "when a 0 1 1"] * 3):
            self.good(";".join(heads[:8]) + ";sum a;" + "end;" * 8)
            self.bad(";".join(heads) + ";sum a;" + "end;" * 9, 9)
            self.bad(";".join(heads[:8]) + ";sum a;" + heads[8] + ";end;" + "end;" * 8, 10)
            self.good((";".join(heads[:8]) + ";" + "end;" * 8) * 3)
            self.good(";".join(heads[:7]) + ";" + "repeat 1;end;" * 5 + "end;" * 7)
        text = "when a 0 1 1;else;" * 8 + "end;" * 8
        self.good(text)
        self.bad("when a 0 1 1;else;" * 9 + "end;" * 9, 17)
        self.assertEqual(desk_with(w="repeat 1;" * 8 + "sum a;" + "end;" * 8).tell("do w"), "2")

    def test_a_bad_tale_leaves_the_elder_one(self):
        desk = desk_with(w="sum a;")
        self.assertEqual(error_of(desk.tell, "tale w deeds;"), ("BadTale", {"line": 1}))
        self.assertEqual(desk.tell("do w"), "2")
        self.assertEqual(desk.tell("tale w deeds a;"), "ok")
        self.assertEqual(desk.tell("do w"), "1")

    def test_nets_and_tales_need_not_be_kept_yet(self):
        desk = Desk()
        self.assertEqual(desk.tell("tale w sum c;do v;"), "ok")
        self.assertEqual(error_of(desk.tell, "do w"), ("Failed", {"line": 1}))
        desk.tell("net c clock 2;post 0;")
        self.assertEqual(error_of(desk.tell, "do w"), ("Failed", {"line": 2}))
        desk.tell("tale v deeds c;")
        self.assertEqual(desk.tell("do w"), "0/0")


class Whole(unittest.TestCase):
    def fails(self, desk, word, line):
        before = state(desk)
        self.assertEqual(error_of(desk.tell, f"do {word}"), ("Failed", {"line": line}))
        self.assertEqual(state(desk), before)

    def test_failed_with_its_line(self):
        for line in ("put a 3 0", "put a 0 5", "toll a 0 2", "cut a 0", "sum c", "do c", "goto a none", "goto b one",
                     "want a 0 0 1", "anew a 7", "again a", "lose b 1", "drop b 0 0", "toll c 0 1"):
            self.fails(desk_with(w=f"put a 0 3;grow b 1;mark b two;{line};sum a;"), "w", 4)
            self.fails(desk_with(w=f"repeat 2;put a 0 3;repeat 1;{line};end;end;"), "w", 4)
            self.fails(desk_with(w=f"when a 0 1 9;sum a;else;back a;again a;{line};end;"), "w", 6)
            self.fails(desk_with(v=f"put a 0 3;{line};", w="sum a;put a 0 4;each x 1 2;do v;end;"), "w", 4)

    def test_a_when_whose_way_is_none(self):
        for line in ("when a 0 2 0", "when a 0 0 0", "when a 7 8 0", "when b 1 2 1", "when c 0 1 1"):
            self.fails(desk_with(w=f"put a 0 3;{line};else;sum a;end;"), "w", 2)
            self.fails(desk_with(w=f"repeat 2;put a 0 3;{line};end;end;"), "w", 3)
        self.fails(desk_with(w="each x 0 2;put a 0 3;each y 0 1;when a $x $y 0;end;end;end;"), "w", 4)

    def test_marks_and_what_was_taken_back_stay(self):
        desk = desk_with(w="put b 0 1;back a;put a 2 2;mark a late;mark a one;sum c;")
        desk.tell("put a 0 2")
        desk.tell("mark a top")
        desk.tell("back a")
        self.fails(desk, "w", 6)
        self.assertEqual(error_of(desk.tell, "goto a late"), ("NoMark", {"name": "late"}))
        self.assertEqual(desk.tell("again a"), "ok")
        self.assertEqual(desk.tell("given a"), "2,0,0")
        self.assertEqual(desk.tell("goto a one"), "ok")
        self.assertEqual((desk.tell("given a"), desk.tell("goto a top"), desk.tell("deeds a")), ("1,0,0", "ok", "2"))

    def test_a_tale_that_was_not_done_can_be_done_later(self):
        desk = desk_with(w="put a 1 2;put a 2 3;sum c;")
        self.fails(desk, "w", 3)
        desk.tell("net c clock 2;post 0;")
        self.assertEqual(desk.tell("do w"), "0")
        self.assertEqual(desk.tell("given a"), "1,2,3")

    def test_lines_far_down(self):
        text = "sum a;" * 300 + "sum c;"
        self.fails(desk_with(w=text), "w", 301)


class TooLong(unittest.TestCase):
    def long(self, desk, word):
        before = state(desk)
        self.assertEqual(error_of(desk.tell, f"do {word}"), ("TooLong", {}))
        self.assertEqual(state(desk), before)

    def test_lines_rounds_and_looks_are_counted(self):
        # How many lines the block does in all, and its text.
        for count, text in ((2000, "put b 0 1;" * 2000), (2000, "repeat 1000;put b 0 1;end;"), (2000, "repeat 2000;end;"),
                            (2000, "each x 1 2000;end;"), (2000, "each x 0 999;put b 0 1;end;"),
                            (1998, "repeat 666;when a 0 1 1;put b 0 1;end;end;"),
                            (1998, "repeat 666;when a 0 1 2;else;put b 0 1;end;end;"),
                            (1998, "repeat 999;when a 0 1 1;end;end;"), (2000, "when a 0 1 1;end;" * 2000),
                            (1999, "repeat 1;repeat 999;put b 0 1;end;end;"), (0, "repeat 0;put b 0 1;end;"),
                            (0, "each x 1 0;put b 0 1;end;")):
            more = 2000 - count
            desk = desk_with(w=text + "put b 0 0;" * more)
            self.assertEqual(desk.tell("do w"), "ok")
            self.long(desk_with(w=text + "put b 0 0;" * (more + 1)), "w")
            self.long(desk_with(w=text + "put b 0 0;" * more + "repeat 1;end;"), "w")
            self.long(desk_with(w=text + "put b 0 0;" * more + "each x 7 7;end;"), "w")
            self.long(desk_with(w=text + "put b 0 0;" * more + "when a 0 1 1;end;"), "w")
            self.assertEqual(desk_with(w=text + "put b 0 0;" * more + "repeat 0;end;").tell("do w"), "ok")

    def test_very_many_rounds(self):
        for text in ("repeat 999999999;end;", "each x 0 999999999;end;", "repeat 999999999;put b 0 1;end;",
                     "each x 0 999999999;repeat 999999999;end;end;"):
            self.long(desk_with(w=text), "w")
        self.assertEqual(desk_with(w="each x 999999999 0;end;").tell("do w"), "ok")

    def test_lines_of_tales_within_are_counted(self):
        # Each do counts, too.
        desk = desk_with(v="put b 0 1;" * 9, w="do v;" * 200)
        self.assertEqual(desk.tell("do w"), "ok")
        self.long(desk_with(v="put b 0 1;" * 9, w="do v;" * 200 + "sum a;"), "w")
        self.long(desk_with(v="put b 0 1;" * 9, w="do v;" * 199 + "put a 0 2;do u;", u="repeat 9;end;"), "w")
        desk = desk_with(v="put b 0 1;" * 1999)
        self.assertEqual(desk.tell("do v"), "ok")
        self.assertEqual(desk.tell("do v"), "ok")

    def test_a_line_that_fails_first(self):
        desk = desk_with(w="sum a;" * 1999 + "sum c;" + "sum a;" * 9)
        self.assertEqual(error_of(desk.tell, "do w"), ("Failed", {"line": 2000}))
        self.long(desk_with(w="sum a;" * 2000 + "sum c;"), "w")
        self.long(desk_with(w="sum a;" * 2000 + "when c 0 1 1;end;"), "w")

    def test_eight_tales_open_and_nine(self):
        words = "abcdefghi"
        for many, good in ((7, True), (8, True), (9, False)):
            tales = {words[at]: f"put a 1 {at % 5};do {words[at + 1]};" for at in range(many - 1)}
            tales[words[many - 1]] = "sum a;"
            desk = desk_with(**tales)
            if good:
                self.assertEqual(desk.tell("do a"), "2")
            else:
                self.long(desk, "a")
                self.assertEqual(desk.tell("do b"), "2")
        # They are closed again, and no more than that.
        tales = {words[at]: f"do {words[at + 1]};" for at in range(8)}
        self.long(desk_with(**{**tales, "i": "sum a;", "z": "sum a;", "a": "do z;do z;do b;"}), "a")
        self.assertEqual(desk_with(**{**tales, "h": "sum a;", "z": "sum a;", "a": "do z;do b;"}).tell("do a"), "2/2")
        desk = desk_with(c="sum a;", b="do c;do c;do c;", a="do b;do b;do b;do c;do c;")
        self.assertEqual(desk.tell("do a"), "/".join(["2"] * 11))

    def test_a_ninth_tale_that_is_not_kept_is_a_line_that_fails(self):
        words = "abcdefgh"
        desk = desk_with(**{word: f"put a 1 1;do {chr(ord(word) + 1)};" for word in words})
        self.assertEqual(error_of(desk.tell, "do a"), ("Failed", {"line": 2}))

    def test_a_tale_that_does_itself(self):
        self.long(desk_with(w="put a 0 3;do w;"), "w")
        self.long(desk_with(w="do v;", v="put a 0 3;repeat 3;do w;end;"), "w")
        # It may where it does not come to it.
        desk = desk_with(w="when a 0 1 1;want a 1 0 0,0,0;do w;else;sum a;end;")
        self.assertEqual(desk.tell("do w"), "1")


if __name__ == "__main__":
    unittest.main()
