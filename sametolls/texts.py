"""Texts of sheets and plans."""

from sametolls.plans import check_plan
from sametolls.trees import ways


def sheet_text(sheet):
    """The text of a sheet: its clock, its ties, and what each post holds and wants."""
    lines = [line_of("clock", (sheet.p,))]
    lines += [line_of("tie", tie) for tie in sheet.tree.ties]
    for post, rows in enumerate(sheet.wants):
        lines.append(line_of("post", (sheet.holds[post],)))
        lines += [line_of("want", row) for row in rows]
    return "".join(lines)


def plan_text(sheet, plan):
    """The text of a plan: what is said over each way, and what each post answers."""
    check_plan(sheet, plan)
    says, answers = plan
    lines = []
    for way in ways(sheet.tree):
        lines.append(line_of("over", way))
        lines += [line_of("say", row) for row in says[way]]
    for post, rows in enumerate(answers):
        lines.append(line_of("at", (post,)))
        lines += [line_of("answer", row) for row in rows]
    return "".join(lines)


def line_of(word, numbers):
    """A word and the numbers behind it, blanks between, closed by a line feed."""
    return " ".join([word] + [str(number) for number in numbers]) + "\n"
