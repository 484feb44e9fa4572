"""Programs of strangers: what they say, where they fail, by what they are fooled, and programs of plans."""

import copy
import unittest

from sametolls.plans import counts, least_plan
from sametolls.programs import as_program, ends, first_failed, fooled, talked, talks
from sametolls.runs import run
from sametolls.sheets import Sheet
from sametolls.tolls import tolls
from sametolls.trees import Tree, ways
from tests.support import (EXAMPLE, ROW_OF_THREE, Dice, all_odd, all_rows, all_wanted, error_of, full_plan, near_of,
                           nested, numbers_at, row_tree, some_sheets, star_tree, units, wants_beyond, ways_in)

LONE = Sheet(3, Tree(()), (2,), (((1, 2),),))
NO_PROGRAMS = [(), (1,), (1, 2), (None, len, len), (-1, len, len), (41, len, len), (True, len, len), ("1", len, len),
               ([1], len, len), (10 ** 59, len, len), [1, len, len], (1, len, len, len), {0: 1, 1: len, 2: len}]


def small_sheets(seed, count, most=100, most_posts=4):
    """Sheets of few givens."""
    found = some_sheets(seed, count, most_posts, 2, 2, (2, 3, 5))
    return [sheet for sheet in found if sheet.p ** sheet.numbers <= most]


def own_end(sheet, plan, way):
    """The tick at whose beginning all is said over a way, by the words of the document."""
    many = len(plan[0][way])
    return many and many + max([0] + [own_end(sheet, plan, other) for other in ways_in(sheet.tree, *way)])


def tied_to(tree, post):
    """The posts tied to a post, ascending."""
    return sorted(other for one, other in ways(tree) if one == post)


def teller(sheet, plan, last=None, bend=None):
    """A program that says what a plan says as soon as it can, for so many ticks, letters and answers bent somehow."""
    finish = {way: own_end(sheet, plan, way) for way in ways(sheet.tree)}
    last = max([0, *finish.values()]) if last is None else last

    def items(here, there, own, heard):
        found = list(own)
        for way in ways_in(sheet.tree, here, there):
            at = tied_to(sheet.tree, here).index(way[0])
            found += [heard[tick][at] if tick < len(heard) else 0
                      for tick in range(finish[way] - len(plan[0][way]), finish[way])]
        return found

    def value(row, things):
        return sum(a * b for a, b in zip(row, things)) % sheet.p

    def say(tick, post, own, heard):
        found = []
        for there in tied_to(sheet.tree, post):
            rows = plan[0][post, there]
            number = tick - finish[post, there] + len(rows)
            known = items(post, there, own, heard)
            found.append(value(rows[number], known) if 0 <= number < len(rows) else 0)
        return tuple(found) if bend is None else bend(tick, post, own, heard, tuple(found))

    def answer(post, own, heard):
        return tuple(value(row, items(post, None, own, heard)) for row in plan[1][post])

    return last, say, answer


def noise(sheet, seed, last):
    """A program that says and answers what looks as if thrown, by all that it knows."""
    def thrown(many, *things):
        total = seed
        for sign in repr(things):
            total = (total * 31 + ord(sign)) % 1000003
        return tuple((total >> at) % sheet.p for at in range(many))

    def say(tick, post, own, heard):
        return thrown(len(tied_to(sheet.tree, post)), tick, post, own, heard)

    def answer(post, own, heard):
        return thrown(len(sheet.wants[post]), post, own, heard)

    return last, say, answer


def bender(sheet, dice):
    """A change of one letter, at one tick and post, for some of what the post holds and has heard."""
    post = dice.below(sheet.tree.posts)
    tick = dice.below(4)
    place = dice.below(3)
    least = dice.below(3)

    def bend(now, here, own, heard, found):
        if (now, here) != (tick, post) or place >= len(found) or sum(own) + sum(map(sum, heard)) < least:
            return found
        return found[:place] + ((found[place] + 1) % sheet.p,) + found[place + 1:]

    return bend


def own_talk(sheet, program, given):
    """What is said and answered, by leading the posts tick by tick."""
    last, say, answer = program
    said = {way: [] for way in ways(sheet.tree)}

    def heard(post, tick):
        return tuple(tuple(said[other, post][then] for other in tied_to(sheet.tree, post)) for then in range(tick))

    owns = [tuple(given[number] for number in numbers_at(sheet, post)) for post in range(sheet.tree.posts)]
    for tick in range(last):
        found = {}
        for post in range(sheet.tree.posts):
            for other, letter in zip(tied_to(sheet.tree, post), say(tick, post, owns[post], heard(post, tick))):
                found[post, other] = letter
        for way in said:
            said[way].append(found[way])
    answers = tuple(answer(post, owns[post], heard(post, last)) for post in range(sheet.tree.posts))
    return {way: tuple(letters) for way, letters in said.items()}, answers


def some_programs(sheet, seed):
    """Programs that tell all, some of them bent, too short, or noise."""
    dice = Dice(seed)
    plan = [least_plan(sheet), full_plan(sheet)][dice.below(2)]
    last = teller(sheet, plan)[0]
    found = [teller(sheet, plan), noise(sheet, seed, dice.below(3)), teller(sheet, plan, last + 1)]
    found += [teller(sheet, plan, None, bender(sheet, dice)) for _ in range(2)]
    found += [teller(sheet, plan, last - 1)] if last else []
    return [program for program in found if program[0] <= 40]


def is_fooled_by(sheet, program, way, thing):
    """Whether a pair of givens is one that fooled may tell, by the words of the document."""
    one, other = thing
    near = near_of(sheet, way)
    if any(one[at] != other[at] for at in range(sheet.numbers) if at not in near):
        return False
    if own_talk(sheet, program, one)[0][way] != own_talk(sheet, program, other)[0][way]:
        return False
    sums = [all_wanted(sheet, given) for given in thing]
    return any(sums[0][post] != sums[1][post] for post, _ in wants_beyond(sheet, way))


class Talked(unittest.TestCase):
    def test_led_tick_by_tick(self):
        dice = Dice(1101)
        for number, sheet in enumerate(small_sheets(1102, 40, 10 ** 9) + [LONE]):
            for program in some_programs(sheet, number):
                given = tuple(dice.below(sheet.p) for _ in range(sheet.numbers))
                found = talked(sheet, program, given)
                self.assertEqual(found, own_talk(sheet, program, given))
                self.assertIsInstance(found[1], tuple)
                for way in found[0]:
                    self.assertIsInstance(found[0][way], tuple)

    def test_what_is_handed_to_the_functions(self):
        tree = star_tree(4, 2)
        sheet = Sheet(7, tree, (1, 2, 0, 1), ((), ((1, 0, 0, 0), (0, 0, 0, 1)), ((0, 0, 0, 0),), ()))
        asked = []

        def say(tick, post, own, heard):
            asked.append((tick, post, own, heard))
            return tuple((10 * tick + 3 * post + other) % 7 for other in ([0, 1, 3] if post == 2 else [2]))

        def answer(post, own, heard):
            asked.append((post, own, heard))
            return ((), (1, 2), (3,), ())[post]

        talk, answers = talked(sheet, (2, say, answer), (1, 2, 3, 4))
        first = [(6 + 0) % 7, (6 + 1) % 7, (6 + 3) % 7]
        second = [(value + 3) % 7 for value in first]
        rest = {post: ((3 * post + 2) % 7, (12 + 3 * post) % 7) for post in (0, 1, 3)}
        self.assertEqual(talk, {(2, 0): (first[0], second[0]), (2, 1): (first[1], second[1]), (2, 3): (first[2], second[2]),
                                (0, 2): rest[0], (1, 2): rest[1], (3, 2): rest[3]})
        self.assertEqual(answers, ((), (1, 2), (3,), ()))
        owns = {0: (1,), 1: (2, 3), 2: (), 3: (4,)}
        one = {0: ((first[0],),), 1: ((first[1],),), 2: (tuple(rest[post][0] for post in (0, 1, 3)),), 3: ((first[2],),)}
        self.assertEqual(asked[:4], [(0, post, owns[post], ()) for post in range(4)])
        self.assertEqual(asked[4:8], [(1, post, owns[post], one[post]) for post in range(4)])
        both = one[2] + (tuple(rest[post][1] for post in (0, 1, 3)),)
        self.assertEqual(asked[10], (2, (), both))
        self.assertEqual(asked[11], (3, (4,), ((first[2],), (second[2],))))

    def test_ticks_none_and_forty(self):
        silent = Sheet(2, row_tree(2), (1, 1), (((1, 0),), ((0, 1),)))
        answer = lambda post, own, heard: own
        self.assertEqual(talked(silent, (0, None, answer), (1, 0)), ({(0, 1): (), (1, 0): ()}, ((1,), (0,))))
        say = lambda tick, post, own, heard: ((tick + own[0] + len(heard)) % 2,)
        talk, _ = talked(silent, (40, say, answer), (1, 0))
        self.assertEqual(talk, {(0, 1): (1,) * 40, (1, 0): (0,) * 40})
        self.assertEqual(talked(LONE, (40, lambda *_: (), lambda *_: (2,)), (0, 1)), ({}, ((2,),)))

    def test_errors_of_functions_go_on(self):
        def fails(*_):
            raise KeyError("own")
        with self.assertRaises(KeyError):
            talked(EXAMPLE, (1, fails, fails), (1, 2, 3))
        with self.assertRaises(KeyError):
            first_failed(EXAMPLE, (0, fails, fails))


def bad_tuples(p, many):
    """Things that are no tuple of so many values."""
    found = [thing for thing in all_odd() if not (thing == () and many == 0)]
    return found + [(0,) * (many + 1), [0] * many, (p,) * (many or 1), (-1,) * (many or 1), (True,) * (many or 1),
                    (None,) * (many or 1), "0" * (many or 1), {at: 0 for at in range(many)}, ((0,),) * (many or 1),
                    (0,) * (many - 1) if many else (0,)]


def spoiler(sheet, tick, post, thing, when=None):
    """A program that says a thing at one tick and post, if what the post holds is right for it."""
    _, say, answer = teller(sheet, full_plan(sheet))

    def spoiled(now, here, own, heard):
        return thing if (now, here) == (tick, post) and when in (None, own) else say(now, here, own, heard)

    return 3, spoiled, answer


class BadSayings(unittest.TestCase):
    def check(self, program, name, fields):
        for call, more in ((first_failed, ()), (talks, ((0, 1),)), (fooled, ((1, 0),))):
            self.assertEqual(error_of(call, EXAMPLE, program, *more), (name, fields))
        self.assertEqual(error_of(talked, EXAMPLE, program, (1, 2, 3)), (name, fields))

    def test_what_say_tells(self):
        for tick, post in ((0, 0), (0, 1), (0, 2), (1, 1), (2, 2)):
            for thing in bad_tuples(5, 2 if post == 1 else 1):
                found = error_of(talked, EXAMPLE, spoiler(EXAMPLE, tick, post, thing), (1, 2, 3))
                self.assertEqual(found, ("BadSaid", {"tick": tick, "post": post}), thing)
        for thing in (None, [0], (0, 0), (5,), (False,)):
            self.check(spoiler(EXAMPLE, 1, 2, thing), "BadSaid", {"tick": 1, "post": 2})
        for thing in bad_tuples(3, 0):
            found = error_of(talked, LONE, (2, lambda tick, *_: thing if tick else (), lambda *_: (0,)), (1, 2))
            self.assertEqual(found, ("BadSaid", {"tick": 1, "post": 0}))

    def test_what_answer_tells(self):
        for post in range(3):
            for thing in bad_tuples(5, 1):
                answer = lambda here, own, heard: thing if here == post else (0,)
                found = error_of(talked, EXAMPLE, (0, None, answer), (1, 2, 3))
                self.assertEqual(found, ("BadAnswer", {"post": post}), thing)
        none = Sheet(5, row_tree(2), (1, 1), ((), ((1, 0), (0, 1))))
        for post, many in ((0, 0), (1, 2)):
            for thing in bad_tuples(5, many):
                answer = lambda here, own, heard: thing if here == post else (0,) * (2 * here)
                self.assertEqual(error_of(talked, none, (0, None, answer), (1, 2)), ("BadAnswer", {"post": post}))
        self.check((0, None, lambda post, own, heard: own if post < 1 else None), "BadAnswer", {"post": 1})

    def test_first_tick_then_least_post_then_answers(self):
        def say(tick, post, own, heard):
            return None if (tick, post) in spoiled else (0, 0) if post == 1 else (0,)
        for spoiled, first in (([(1, 0), (0, 2)], (0, 2)), ([(0, 2), (0, 1)], (0, 1)), ([(2, 0), (2, 1), (3, 0)], (2, 0))):
            found = error_of(talked, EXAMPLE, (4, say, lambda *_: None), (1, 2, 3))
            self.assertEqual(found, ("BadSaid", {"tick": first[0], "post": first[1]}))
        spoiled = []
        found = error_of(talked, EXAMPLE, (4, say, lambda post, *_: (0,) if post == 0 else None), (1, 2, 3))
        self.assertEqual(found, ("BadAnswer", {"post": 1}))

    def test_at_the_first_given_at_which_they_come(self):
        # Post 1 is bad where it holds 2, post 2 where it holds 1: that comes first among all givens.
        _, say, answer = teller(EXAMPLE, full_plan(EXAMPLE))

        def spoiled(tick, post, own, heard):
            return None if (post, own) in ((1, (2,)), (2, (1,))) else say(tick, post, own, heard)

        for call, more in ((first_failed, ()), (talks, ((0, 1),)), (fooled, ((0, 1),))):
            found = error_of(call, EXAMPLE, (3, spoiled, answer), *more)
            self.assertEqual(found, ("BadSaid", {"tick": 0, "post": 2}))

    def test_first_failed_looks_no_further_than_what_it_tells(self):
        # It fails at (0, 0, 1), and says what is bad at (0, 0, 2).
        _, say, answer = teller(EXAMPLE, full_plan(EXAMPLE))

        def spoiled(post, own, heard):
            if post == 2 and own == (1,):
                return (4,)
            return None if post == 2 and own == (2,) else answer(post, own, heard)

        program = 3, say, spoiled
        self.assertEqual(first_failed(EXAMPLE, program), (0, 0, 1))
        for call in (talks, fooled):
            self.assertEqual(error_of(call, EXAMPLE, program, (0, 1)), ("BadAnswer", {"post": 2}))


class AllGivens(unittest.TestCase):
    def test_first_failed_by_going_through_all(self):
        seen = []
        for number, sheet in enumerate(small_sheets(1111, 60) + [LONE]):
            for program in some_programs(sheet, number):
                found = [given for given in all_rows(sheet.p, sheet.numbers)
                         if own_talk(sheet, program, given)[1] != all_wanted(sheet, given)]
                self.assertEqual(first_failed(sheet, program), found[0] if found else None)
                seen.append(bool(found))
        self.assertGreater(seen.count(True), 10)
        self.assertGreater(seen.count(False), 10)

    def test_talks_by_going_through_all(self):
        for number, sheet in enumerate(small_sheets(1112, 40)):
            for program in some_programs(sheet, number)[:4]:
                found = [own_talk(sheet, program, given)[0] for given in all_rows(sheet.p, sheet.numbers)]
                for way in ways(sheet.tree):
                    self.assertEqual(talks(sheet, program, way), len({talk[way] for talk in found}))

    def test_fooled_by_the_words(self):
        seen = []
        for number, sheet in enumerate(small_sheets(1113, 26, 27)):
            givens = all_rows(sheet.p, sheet.numbers)
            for program in some_programs(sheet, number):
                for way in ways(sheet.tree):
                    found = fooled(sheet, program, way)
                    seen.append(found is None)
                    if found is not None:
                        self.assertTrue(is_fooled_by(sheet, program, way, found))
                    else:
                        self.assertFalse(any(is_fooled_by(sheet, program, way, (one, other))
                                             for at, one in enumerate(givens) for other in givens[:at]))
        self.assertGreater(seen.count(True), 10)
        self.assertGreater(seen.count(False), 10)

    def test_the_fact_of_strangers(self):
        for number, sheet in enumerate(small_sheets(1114, 22)):
            least = tolls(sheet)
            for program in some_programs(sheet, number):
                failed = first_failed(sheet, program)
                for way in ways(sheet.tree):
                    pair = fooled(sheet, program, way)
                    if failed is None:
                        self.assertGreaterEqual(talks(sheet, program, way), sheet.p ** least[way])
                        self.assertIsNone(pair)
                    if talks(sheet, program, way) < sheet.p ** least[way]:
                        self.assertIsNotNone(pair)
                    if pair is not None:
                        self.assertTrue(any(own_talk(sheet, program, one)[1] != all_wanted(sheet, one) for one in pair))

    def test_4096_givens_and_more(self):
        silent = lambda sheet: (0, None, lambda post, own, heard: (0,) * len(sheet.wants[post]))
        for p, many, good in ((2, 12, True), (2, 13, False), (4093, 1, True), (4099, 1, False), (61, 2, True),
                              (67, 2, False), (3, 7, True), (3, 8, False), (999983, 8, False)):
            sheet = Sheet(p, row_tree(2), ((many + 1) // 2, many // 2), (((0,) * many,), (units(many)[0],)))
            for call, more in ((first_failed, ()), (talks, ((0, 1),)), (fooled, ((0, 1),))):
                if good:
                    self.assertIsNone(error_of(call, sheet, silent(sheet), *more))
                else:
                    self.assertEqual(error_of(call, sheet, silent(sheet), *more), ("TooMany", {"most": 4096}))
            if good:
                first = (0,) * (many - 1) + (1,) if many == 1 else (1,) + (0,) * (many - 1)
                self.assertEqual(first_failed(sheet, silent(sheet)), first)
                self.assertEqual(talks(sheet, silent(sheet), (0, 1)), 1)
                self.assertEqual(fooled(sheet, silent(sheet), (1, 0)), None)
            given = (1,) * many
            self.assertEqual(talked(sheet, silent(sheet), given)[1], ((0,), (0,)))

    def test_one_given_alone(self):
        none = Sheet(999983, row_tree(2), (0, 0), (((),), ()))
        answer = lambda post, own, heard: (0,) if post == 0 else ()
        self.assertIsNone(first_failed(none, (0, None, answer)))
        self.assertEqual(first_failed(none, (0, None, lambda post, *_: (7,) if post == 0 else ())), ())
        self.assertEqual(talks(none, (2, lambda *_: (5,), answer), (1, 0)), 1)
        self.assertIsNone(fooled(none, (0, None, answer), (0, 1)))


class Plans(unittest.TestCase):
    def plans(self, seed, count):
        for sheet in some_sheets(seed, count, 6, 3, 2):
            for plan in (least_plan(sheet), full_plan(sheet)):
                yield sheet, plan

    def test_ends_by_an_own_going(self):
        for sheet, plan in self.plans(1121, 60):
            found = ends(sheet, plan)
            self.assertEqual(found, {way: own_end(sheet, plan, way) for way in ways(sheet.tree)})
            found.clear()
            self.assertEqual(len(ends(sheet, plan)), len(ways(sheet.tree)))

    def test_ends_by_hand(self):
        self.assertEqual(ends(EXAMPLE, least_plan(EXAMPLE)), {(0, 1): 1, (1, 0): 0, (1, 2): 2, (2, 1): 0})
        self.assertEqual(ends(EXAMPLE, full_plan(EXAMPLE)), {(0, 1): 1, (1, 0): 3, (1, 2): 3, (2, 1): 1})
        self.assertEqual(ends(LONE, least_plan(LONE)), {})

    def test_programs_answer_as_run_does(self):
        dice = Dice(1122)
        seen = 0
        for sheet, plan in self.plans(1123, 60):
            last = max([0, *[own_end(sheet, plan, way) for way in ways(sheet.tree)]])
            if last > 40:
                self.assertEqual(error_of(as_program, sheet, plan), ("TooMany", {"most": 40}))
                continue
            program = as_program(sheet, plan)
            self.assertIsInstance(program, tuple)
            self.assertEqual((len(program), program[0]), (3, last))
            for _ in range(4):
                given = tuple(dice.below(sheet.p) for _ in range(sheet.numbers))
                talk, answers = talked(sheet, program, given)
                self.assertEqual(answers, run(sheet, plan, given)[1])
                self.assertEqual(answers, own_talk(sheet, program, given)[1])
                self.assertTrue(all(len(letters) == last for letters in talk.values()))
                seen += 1
        self.assertGreater(seen, 100)

    def test_programs_of_right_and_of_wrong_plans(self):
        for sheet in small_sheets(1124, 40):
            plan = least_plan(sheet)
            program = as_program(sheet, plan)
            self.assertIsNone(first_failed(sheet, program))
            for way, many in counts(sheet, plan).items():
                self.assertEqual(talks(sheet, program, way), sheet.p ** many)
                self.assertIsNone(fooled(sheet, program, way))
        wrong = (least_plan(EXAMPLE)[0], (((0,),), ((0, 0),), ((0, 0),)))
        self.assertEqual(first_failed(EXAMPLE, as_program(EXAMPLE, wrong)), (0, 0, 1))

    def test_forty_ticks_and_forty_one(self):
        sheet = Sheet(5, row_tree(3), (1, 0, 0), ((), (), ((1,),)))
        for there, more, good in ((40, 0, True), (41, 0, False), (20, 20, True), (20, 21, False), (60, 60, False),
                                  (0, 40, True), (0, 41, False)):
            says = {(0, 1): ((1,),) * there, (1, 0): (), (2, 1): (), (1, 2): ((1,) + (0,) * (there - 1),) * more
                    if there else ((),) * more}
            heard = (1,) + (0,) * (more - 1) if more else ()
            plan = (says, ((), (), (heard,)))
            self.assertEqual(ends(sheet, plan)[1, 2], there + more if more else 0)
            if good:
                program = as_program(sheet, plan)
                self.assertEqual(program[0], 40)
                self.assertEqual(talked(sheet, program, (3,))[1], run(sheet, plan, (3,))[1])
            else:
                self.assertEqual(error_of(as_program, sheet, plan), ("TooMany", {"most": 40}))

    def test_no_ways_no_ticks(self):
        plan = least_plan(LONE)
        self.assertEqual(as_program(LONE, plan)[0], 0)
        self.assertEqual(talked(LONE, as_program(LONE, plan), (1, 1)), ({}, ((0,),)))

    def test_a_plan_that_is_changed_later_changes_nothing(self):
        plan = least_plan(EXAMPLE)
        program = as_program(EXAMPLE, plan)
        plan[0].clear()
        self.assertIsNone(first_failed(EXAMPLE, program))
        before = copy.deepcopy(full_plan(EXAMPLE))
        after = full_plan(EXAMPLE)
        talked(EXAMPLE, as_program(EXAMPLE, after), (1, 2, 3))
        self.assertEqual(after, before)

    def test_no_plan(self):
        plan = least_plan(EXAMPLE)
        for thing in all_odd() + [plan[0], list(plan), plan + ((),), ({}, plan[1]), (plan[0], ()), nested("pair", 5)]:
            self.assertEqual(error_of(ends, EXAMPLE, thing), ("NoPlan", {}))
            self.assertEqual(error_of(as_program, EXAMPLE, thing), ("NoPlan", {}))


class Errors(unittest.TestCase):
    def test_no_program_ahead_of_all(self):
        many = Sheet(2, ROW_OF_THREE, (8, 8, 8), ((), (), ()))
        for program in [thing for thing in all_odd() if thing != ()] + NO_PROGRAMS:
            for sheet in (EXAMPLE, many):
                self.assertEqual(error_of(talked, sheet, program, None), ("NoProgram", {}))
                self.assertEqual(error_of(first_failed, sheet, program), ("NoProgram", {}))
                for way in ((0, 1), None):
                    self.assertEqual(error_of(talks, sheet, program, way), ("NoProgram", {}))
                    self.assertEqual(error_of(fooled, sheet, program, way), ("NoProgram", {}))

    def test_no_given(self):
        program = teller(EXAMPLE, full_plan(EXAMPLE))
        for given in all_odd() + [(1, 2), (1, 2, 3, 4), (1, 2, 5), (-1, 2, 3), (1, True, 3), [1, 2, 3], "123", (1, 2, None)]:
            self.assertEqual(error_of(talked, EXAMPLE, program, given), ("NoGiven", {}))
            self.assertEqual(error_of(talked, EXAMPLE, (9, None, None), given), ("NoGiven", {}))

    def test_no_way_then_too_many(self):
        program = (1, lambda *_: None, lambda *_: None)
        many = Sheet(2, ROW_OF_THREE, (8, 8, 8), ((), (), ()))
        for way in all_odd() + [(0, 2), (0, 0), (0, 1, 2), [0, 1], (True, 2), (0, True), (0, 3), (-1, 0), "01", (0, None)]:
            for sheet in (EXAMPLE, many):
                self.assertEqual(error_of(talks, sheet, program, way), ("NoWay", {}))
                self.assertEqual(error_of(fooled, sheet, program, way), ("NoWay", {}))
        self.assertEqual(error_of(talks, many, program, (0, 1)), ("TooMany", {"most": 4096}))
        self.assertEqual(error_of(fooled, many, program, (1, 0)), ("TooMany", {"most": 4096}))
        self.assertEqual(error_of(first_failed, many, program), ("TooMany", {"most": 4096}))


if __name__ == "__main__":
    unittest.main()
