"""The names of the interface: each in its own file, with its arguments."""

import importlib
import inspect
import unittest

FILES = {
    "clocks": ["is_clock(thing)", "ladder(p, wide, rows)", "rank(p, wide, rows)", "determinant(p, rows)",
               "mixture(p, wide, rows, row)", "parting(p, wide, rows, row)", "square(p, wide, rows)"],
    "trees": ["Tree(ties)", "tied(tree, post)", "beyond(tree, way)", "ways(tree)"],
    "sheets": ["Sheet(p, tree, holds, wants)", "held(sheet, post)", "block(sheet, way)"],
    "tolls": ["toll(sheet, way)", "tolls(sheet)", "toll_square(sheet, way)", "is_toll_square(sheet, way, thing)"],
    "plans": ["is_shape(sheet, thing)", "is_right(sheet, thing)", "said(sheet, plan, way)",
              "first_wrong(sheet, plan)", "counts(sheet, plan)", "over(sheet, plan)",
              "translated(sheet, plan, other)", "least_plan(sheet)"],
    "runs": ["run(sheet, plan, given)", "wanted(sheet, given)"],
    "listeners": ["learnt(sheet, plan, ways)", "surely_learnt(sheet, ways)", "can_hide(sheet, ways, row)",
                  "alike(sheet, plan, ways, one, other)", "twin(sheet, plan, ways, given, row)"],
    "texts": ["sheet_text(sheet)", "plan_text(sheet, plan)"],
    "reading": ["read_sheet(text)", "read_plan(sheet, text)"],
    "orders": ["in_row(sheet, order)", "cut_tolls(sheet, lot)", "least_peak(sheet)", "least_sum(sheet)",
               "floors(sheet)", "is_floors(sheet, number, thing)"],
    "undoing": ["can_be_undone(sheet)", "undone(sheet)", "mirrored(sheet)", "staying(p, tree, holds)",
                "behind(sheet, other)", "summed(sheet, other)", "came_from(sheet, answers)", "unheard(sheet, way)"],
    "givens": ["barring(tree, holds, wants, table)", "is_barring(tree, holds, wants, table, thing)",
               "made_sheet(p, tree, holds, wants, table)", "made_undoable(p, tree, holds, table)",
               "tolls_in_all(p, holds, wants, there, back)", "sheets_in_all(p, tree, holds, wants)"],
    "rulesheets": ["Rules(p, tree, unknowns, rules)", "rule_sheet(rules)", "with_rule(rules, post, number, row, right)",
                   "without_rule(rules, post, number)"],
    "solving": ["solution(rules)", "contradiction(rules)", "sure_values(rules, post)", "is_solution(rules, thing)",
                "is_contradiction(rules, thing)", "are_sure(rules)", "many_solutions(rules)", "loose(rules)",
                "tidings(rules, way)", "told_at(rules, post)", "changed_ways(rules, other)", "worked_out(rules)"],
    "openings": ["Timing(right, left)", "even_timing(ties, breadth)", "places(timing, way, tick)",
                 "carried(timing, way, tick)"],
    "loads": ["load(timing, one, other, tick)", "barred(timing, one, other, tick, cut)",
              "least_cut(timing, one, other, tick)", "between(sheet, one, other)", "can_by(sheet, timing, tick)",
              "too_much(sheet, timing, tick)", "is_too_much(sheet, timing, tick, thing)", "least_tick(sheet, timing)"],
    "timetables": ["is_kept(sheet, timing, thing)", "known(sheet, timing, table, post, tick)",
                   "met(sheet, timing, table)", "heard_at(sheet, timing, table, given)",
                   "timetable(sheet, timing, tick)"],
    "hours": ["in_time(sheet, breadth, hours)", "too_early(sheet, breadth, hours)",
              "is_too_early(sheet, breadth, hours, thing)", "hours_table(sheet, breadth, hours)",
              "least_delay(sheet, breadth, hours)", "ticks(sheet)", "overlap_ticks(sheet)"],
    "batches": ["is_pacing(sheet, plan, breadth, pace, thing)", "pacing(sheet, plan, breadth, pace)",
                "least_pace(sheet, plan, breadth)", "best_pace(sheet, breadth)", "lag(sheet, plan, pacing)"],
    "programs": ["talked(sheet, program, given)", "first_failed(sheet, program)", "talks(sheet, program, way)",
                 "fooled(sheet, program, way)", "ends(sheet, plan)", "as_program(sheet, plan)"],
    "nets": ["Net(sheet, given)"],
    "journals": ["replayed(sheet, given, journal)"],
    "desks": ["Desk()"],
}


METHODS = {
    ("nets", "Net"): [
        "sheet()", "given()", "answers()", "toll(way)", "rows(way)", "plan()", "set_want(post, want, row)",
        "add_want(post, row)", "drop_want(post, want)", "add_number(post, value)", "drop_number(number)",
        "add_post(post)", "drop_post(post)", "set_value(number, value)", "set_values(values)", "anew(lot)",
        "renewal(lot)", "undo()", "redo()", "deeds()", "mark(name)", "marks()", "go_to(name)", "copy()",
        "trying(action)", "journal()"],
    ("desks", "Desk"): ["tell(line)"],
}


class Interface(unittest.TestCase):
    def test_names_arguments_and_files(self):
        for file, lines in FILES.items():
            module = importlib.import_module(f"sametolls.{file}")
            for line in lines:
                name = line.partition("(")[0]
                thing = getattr(module, name)
                self.assertEqual(f"{name}{inspect.signature(thing)}", line)
                self.assertEqual(thing.__module__, f"sametolls.{file}")
                self.assertEqual(inspect.isclass(thing), name[0].isupper())

    def test_methods_are_defined_in_each_class(self):
        for (file, name), lines in METHODS.items():
            kind = getattr(importlib.import_module(f"sametolls.{file}"), name)
            for line in lines:
                method = line.partition("(")[0]
                found = str(inspect.signature(vars(kind)[method]))
                self.assertEqual(method + found.replace("self, ", "").replace("self", ""), line)

    def test_equality_is_defined_in_each_class(self):
        for file, name in (("trees", "Tree"), ("sheets", "Sheet"), ("rulesheets", "Rules"), ("openings", "Timing")):
            kind = getattr(importlib.import_module(f"sametolls.{file}"), name)
            self.assertIn("__eq__", vars(kind))
            self.assertIn("__init__", vars(kind))


if __name__ == "__main__":
    unittest.main()
