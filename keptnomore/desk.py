"""A desk, at which spaces and houses are worked with by rows of words."""

from keptnomore.bundles import Bundle
from keptnomore.errors import NoCommand
from keptnomore.houses import House
from keptnomore.kinds import Kinds
from keptnomore.questions import Question
from keptnomore.rules import Rules
from keptnomore.spaces import Space
from keptnomore.trees import events_of, words_of
from keptnomore.words import is_figure, words_in

# What the commands are followed by: nothing, everything behind the first blank, or so many figures.
PLAIN = ("begin", "kept", "pending", "heaps", "may")
TEXTS = ("kinds", "rules", "ask", "take", "put")
FIGURES = {"drop": 1, "ending": 1, "why": 3}
# These need no house.
FREE = ("kinds", "rules", "ask", "drop", "begin")


def is_formed(row):
    """Whether a value has the form of a command."""
    if not isinstance(row, str):
        return False
    if row in PLAIN:
        return True
    word, blank, rest = row.partition(" ")
    if blank == "":
        return False
    if word in TEXTS:
        return True
    figures = rest.split(" ")
    return FIGURES.get(word, 0) == len(figures) and all([is_figure(figure) for figure in figures])


def said(words):
    """The words, or `none` if there are none."""
    return " ".join(words) if words else "none"


def pair_word(pair):
    """The word for a question and a mark."""
    return f"{pair[0]}:{pair[1]}"


class Desk:
    """Texts of kinds, rules and questions, and a house if one was begun."""

    def __init__(self):
        self._kinds = Kinds.read("")
        self._rules = Rules.read("")
        self._questions = []
        self._house = None
        self._done = []

    def __len__(self):
        return len(self._done)

    def say(self, row):
        """Executes a command, and returns its answer."""
        if not is_formed(row):
            raise NoCommand(row)
        word, _, rest = row.partition(" ")
        if word not in FREE and self._house is None:
            raise NoCommand(row)
        if word == "drop" and int(rest) >= len(self._questions):
            raise NoCommand(row)
        answer = self._laid(word, rest) if word in FREE else self._asked(word, rest)
        self._done.append(word)
        return answer

    def _laid(self, word, rest):
        """Executes a command that sets something."""
        house = None
        text = rest.replace(" ; ", "\n")
        if word == "kinds":
            self._kinds = Kinds.read(text)
        elif word == "rules":
            self._rules = Rules.read(text)
        elif word == "ask":
            self._questions.append(Question.read(text))
        elif word == "drop":
            self._questions.pop(int(rest))
        else:
            house = House(Space(self._kinds, self._rules, self._questions))
        self._house = house
        return "ok"

    def _asked(self, word, rest):
        """Executes a command to the house."""
        house = self._house
        if word == "kept":
            return house.kept().replace("\n", " ; ")
        if word == "take":
            return said([f"{at}:{question}:{mark}" for at, question, mark in house.run(events_of(rest))])
        if word == "put":
            return said([pair_word(pair) for pair in house.put(Bundle.read(house.space, rest))])
        if word == "pending":
            return said([pair_word(pair) for pair in house.pending()])
        if word == "heaps":
            return said([f"{question}:" + ",".join([str(mark) for mark in marks]) for question, marks in house.heaps()])
        if word == "may":
            return said(house.may())
        if word == "ending":
            return said(words_in(words_of(house.ending(free=int(rest)))))
        question, mark, free = [int(figure) for figure in rest.split(" ")]
        paper = house.why(question, mark, free=free)
        return f"{words_of(paper.yes)} | {words_of(paper.no)}"
