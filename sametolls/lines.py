"""The lines of a desk: their forms, and what they do with a net."""

from sametolls.kinds import is_name
from sametolls.reading import is_number
from sametolls.texts import sheet_text
from sametolls.trees import ways

# What stands behind the word of each line that does something with a net, or does a tale.
FORMS = {
    "want": ("name", "number", "number", "row"), "more": ("name", "number", "row"),
    "drop": ("name", "number", "number"), "hold": ("name", "number", "number"), "lose": ("name", "number"),
    "grow": ("name", "number"), "cut": ("name", "number"), "put": ("name", "number", "number"),
    "back": ("name",), "again": ("name",), "mark": ("name", "name"), "goto": ("name", "name"),
    "toll": ("name", "number", "number"), "sum": ("name",), "answers": ("name",), "given": ("name",),
    "deeds": ("name",), "text": ("name",), "anew": ("name", "row"), "do": ("name",),
}
# Lines that change a net, by the name of the change.
CHANGERS = {
    "want": "set_want", "more": "add_want", "drop": "drop_want", "hold": "add_number", "lose": "drop_number",
    "grow": "add_post", "cut": "drop_post", "put": "set_value",
}


def are_formed(kinds, words, letters):
    """Whether words are of such kinds; letters that stand for numbers may stand in their places."""
    if len(kinds) != len(words):
        return False
    return all([is_formed(kind, word, letters) for kind, word in zip(kinds, words)])


def is_formed(kind, word, letters):
    """Whether a word is of a kind."""
    if kind == "name":
        return is_name(word)
    if kind == "letter":
        return is_name(word) and len(word) == 1
    if kind == "row":
        return word == "-" or all([is_number(part) for part in word.split(",")])
    return is_number(word) or (word.startswith("$") and word[1:] in letters)


def values_of(kinds, words):
    """What words of such kinds mean."""
    return tuple([value_of(kind, word) for kind, word in zip(kinds, words)])


def value_of(kind, word):
    """What a word of a kind means."""
    if kind == "number":
        return int(word)
    if kind == "row":
        return () if word == "-" else tuple([int(part) for part in word.split(",")])
    return word


def worked(net, word, told):
    """Do a line with a net; the string that it tells."""
    if word in CHANGERS:
        net.change((CHANGERS[word],) + told)
        return "ok"
    if word in ASKERS:
        ask = ASKERS[word]
        return ask(net, *told)
    move = MOVERS[word]
    move(net, *told)
    return "ok"


def take_back(net):
    """Take back the last change."""
    net.undo()


def do_again(net):
    """Do the change again that was taken back last."""
    net.redo()


def set_mark(net, name):
    """Set a mark."""
    net.mark(name)


def go_to_mark(net, name):
    """Go to a mark."""
    net.go_to(name)


def toll_told(net, here, there):
    """The toll of a way."""
    return str(net.toll((here, there)))


def sum_told(net):
    """The sum of all tolls."""
    return str(sum([net.toll(way) for way in ways(net.sheet().tree)]))


def answers_told(net):
    """The answers, post by post."""
    return ";".join([row_told(values) for values in net.answers()])


def given_told(net):
    """The values of all numbers."""
    return row_told(net.given())


def deeds_told(net):
    """How many changes can be taken back."""
    return str(net.deeds())


def text_told(net):
    """The text of the sheet, on one line."""
    return sheet_text(net.sheet()).replace("\n", ";")


def anew_told(net, lot):
    """How many numbers must be said in all if just those of a lot change."""
    return str(sum(net.anew(lot).values()))


def row_told(values):
    """Values with commas between."""
    return ",".join([str(value) for value in values]) if values else "-"


MOVERS = {"back": take_back, "again": do_again, "mark": set_mark, "goto": go_to_mark}
ASKERS = {
    "toll": toll_told, "sum": sum_told, "answers": answers_told, "given": given_told, "deeds": deeds_told,
    "text": text_told, "anew": anew_told,
}
