"""A desk that works by lines."""

from sametolls.errors import NoLine, TollError
from sametolls.kinds import is_name
from sametolls.lines import FORMS, are_formed, values_of, worked
from sametolls.nets import Net
from sametolls.reading import read_sheet
from sametolls.tales import Telling, net_of, read_tale


class Desk:
    """Nets and tales, each kept under its name."""

    def __init__(self):
        self._nets = {}
        self._tales = {}

    def tell(self, line):
        """Do a line; the string that it tells."""
        word, told = read_line(line)
        if word == "net":
            sheet = read_sheet(told[1])
            self._nets[told[0]] = Net(sheet, (0,) * sheet.numbers)
            return "ok"
        if word == "tale":
            self._tales[told[0]] = read_tale(told[1])
            return "ok"
        if word == "do":
            return self._do(told[0])
        return worked(net_of(self._nets, told[0]), word, told[1:])

    def _do(self, word):
        telling = Telling(self._nets, self._tales)
        stories = [(net, net.story()) for net in self._nets.values()]
        try:
            telling.tell(word)
        except TollError:
            for net, story in stories:
                net.take_up(story)
            raise
        return "/".join(telling.told) if telling.told else "ok"


def read_line(line):
    """The word of a line, and the tuple of what stands behind it."""
    if not isinstance(line, str) or "\n" in line:
        raise NoLine()
    word, *words = line.split(" ")
    if word in ("net", "tale"):
        # A text may have blanks of its own.
        words = line.split(" ", 2)[1:]
        if len(words) != 2 or not is_name(words[0]) or words[1] == "":
            raise NoLine()
        return word, (words[0], words[1].replace(";", "\n"))
    if word not in FORMS or not are_formed(FORMS[word], words, []):
        raise NoLine()
    return word, values_of(FORMS[word], words)
