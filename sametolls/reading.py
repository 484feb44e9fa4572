"""Reading the texts of sheets and plans."""

from sametolls.errors import BadText, NoPlan
from sametolls.plans import check_plan
from sametolls.sheets import Sheet
from sametolls.trees import Tree, ways

MOST_FIGURES = 9
# What can stand behind a line of each word.
FOLLOWERS = {
    "clock": ("tie", "post"), "tie": ("tie", "post"), "post": ("post", "want"), "want": ("post", "want"),
    "over": ("over", "say", "at"), "say": ("over", "say", "at"), "at": ("at", "answer"), "answer": ("at", "answer"),
}
# How many numbers stand behind the words that do not take any count of them.
SIZES = {"clock": 1, "tie": 2, "post": 1, "over": 2, "at": 1}


def read_sheet(text):
    """The sheet of a text."""
    lines = read_lines(text, ("clock",))
    tree = Tree(tuple([numbers for word, numbers in lines if word == "tie"]))
    heads = grouped(lines, "post", "want")
    holds = tuple([numbers[0] for numbers, _ in heads])
    return Sheet(lines[0][1][0], tree, holds, tuple([rows for _, rows in heads]))


def read_plan(sheet, text):
    """The plan of a text."""
    lines = read_lines(text, ("over", "at"))
    over = grouped(lines, "over", "say")
    at = grouped(lines, "at", "answer")
    if [way for way, _ in over] != ways(sheet.tree):
        raise NoPlan()
    if [numbers[0] for numbers, _ in at] != list(range(sheet.tree.posts)):
        raise NoPlan()
    plan = {way: rows for way, rows in over}, tuple([rows for _, rows in at])
    check_plan(sheet, plan)
    return plan


def read_lines(text, firsts):
    """The list of the pairs (word, numbers) of all lines, the first one having one of some words."""
    if not isinstance(text, str):
        raise BadText(0)
    *lines, rest = text.split("\n")
    found = []
    words = firsts
    for number, line in enumerate(lines):
        word, *figures = line.split(" ")
        if word not in words or not are_numbers(word, figures):
            raise BadText(number + 1)
        found.append((word, tuple([int(figure) for figure in figures])))
        words = FOLLOWERS[word]
    if rest or not lines:
        raise BadText(len(lines) + 1)
    return found


def are_numbers(word, figures):
    """Whether as many numbers stand behind a word as it takes."""
    if len(figures) != SIZES.get(word, len(figures)):
        return False
    return all([is_number(figure) for figure in figures])


def is_number(word):
    """Whether a word is a number without needless zeros, of not too many figures."""
    if not word.isdigit() or not word.isascii() or len(word) > MOST_FIGURES:
        return False
    return word == "0" or not word.startswith("0")


def grouped(lines, head, row):
    """The pairs of the numbers of each line with one word, and those of the lines with another behind it."""
    groups = []
    for word, numbers in lines:
        if word == head:
            groups.append((numbers, []))
        elif word == row:
            groups[-1][1].append(numbers)
    return [(numbers, tuple(rows)) for numbers, rows in groups]
