"""Tales: rows of lines of a desk with rounds and choices, and doing them."""

from sametolls.errors import BadTale, Failed, NoName, TollError, TooLong
from sametolls.lines import ASKERS, FORMS, are_formed, values_of, worked

MOST_OPEN = 8
MOST_DONE = 2000
# What stands behind the word of each line that is closed by a line `end`.
BLOCKS = {
    "repeat": ("number",), "each": ("letter", "number", "number"), "when": ("name", "number", "number", "number"),
}


class Step:
    """A line of a tale, by its number and its words, with the lines within it, and those behind its else."""

    def __init__(self, number, words):
        self.number = number
        self.words = words
        self.inner = []
        self.other = []
        self.turned = False

    def take(self, step):
        """Have another line within."""
        if self.turned:
            self.other.append(step)
        else:
            self.inner.append(step)


def read_tale(text):
    """The list of the steps of a tale."""
    *lines, rest = text.split("\n")
    around = [Step(0, ["tale"])]
    for number, line in enumerate(lines, start=1):
        words = line.split(" ")
        if not can_stand(around, words):
            raise BadTale(number)
        innermost = around[-1]
        if words[0] == "end":
            around.pop()
        elif words[0] == "else":
            innermost.turned = True
        else:
            step = Step(number, words)
            innermost.take(step)
            if words[0] in BLOCKS:
                around.append(step)
    if rest or len(around) > 1:
        raise BadTale(len(lines) + 1)
    return around[0].inner


def can_stand(around, words):
    """Whether a line of such words has a form, and can stand within the lines around it."""
    word = words[0]
    innermost = around[-1]
    if word == "end":
        return len(words) == 1 and len(around) > 1
    if word == "else":
        return len(words) == 1 and innermost.words[0] == "when" and not innermost.turned
    letters = [step.words[1] for step in around if step.words[0] == "each"]
    if word in BLOCKS:
        return len(around) <= MOST_OPEN and are_formed(BLOCKS[word], words[1:], letters)
    return word in FORMS and are_formed(FORMS[word], words[1:], letters)


class Telling:
    """One doing of a tale: the nets and tales of a desk, how much may still be done, and what was told."""

    def __init__(self, nets, tales):
        self.nets = nets
        self.tales = tales
        self.left = MOST_DONE
        self.depth = 0
        self.told = []

    def tell(self, word):
        """Do a tale."""
        if word not in self.tales:
            raise NoName(word)
        if self.depth == MOST_OPEN:
            raise TooLong()
        self.depth += 1
        self.go(self.tales[word], {})
        self.depth -= 1

    def go(self, steps, letters):
        """Do steps, with a number for each letter that can stand in them."""
        for step in steps:
            word = step.words[0]
            told = values_of(BLOCKS.get(word, ()), spelt(step.words[1:], letters))
            if word == "repeat":
                for _ in range(told[0]):
                    self.spend()
                    self.go(step.inner, letters)
            elif word == "each":
                for number in range(told[1], told[2] + 1):
                    self.spend()
                    self.go(step.inner, {**letters, told[0]: number})
            elif word == "when":
                self.spend()
                self.go(step.inner if self.look(step, told) else step.other, letters)
            else:
                self.spend()
                self.do_line(step, letters)

    def spend(self):
        """Count another line, round or look."""
        if self.left == 0:
            raise TooLong()
        self.left -= 1

    def look(self, step, told):
        """Whether the toll that a when asks for is as much as it says."""
        name, here, there, most = told
        try:
            return net_of(self.nets, name).toll((here, there)) >= most
        except TollError:
            raise Failed(step.number) from None

    def do_line(self, step, letters):
        """Do a line of the desk."""
        word, *words = spelt(step.words, letters)
        try:
            self.work(word, values_of(FORMS[word], words))
        except TooLong:
            raise
        except TollError:
            raise Failed(step.number) from None

    def work(self, word, told):
        """Do a tale within, or a line with a net, keeping what was asked."""
        if word == "do":
            self.tell(told[0])
            return
        said = worked(net_of(self.nets, told[0]), word, told[1:])
        if word in ASKERS:
            self.told.append(said)


def net_of(nets, name):
    """The net that is kept under a name."""
    if name not in nets:
        raise NoName(name)
    return nets[name]


def spelt(words, letters):
    """The words with numbers in the places of the letters that stand for them."""
    return [str(letters[word[1:]]) if word.startswith("$") else word for word in words]
