"""Spaces: the kinds, rules and questions that houses work with."""

from keptnomore.bases import Bases
from keptnomore.errors import NoDocument, TooGreat, TooMany
from keptnomore.machines import Machine
from keptnomore.views import kinds_behind, outers_of

MOST = 192


def weight_of(text):
    """What an atom of a kind's condition counts with."""
    words = text.split(" ")
    if words[0] == "count":
        return int(words[3])
    return 3 if words[0] == "first" or words[1] in ("then", "next") else 2


def kinds_product(kinds):
    """The product of the kinds alone."""
    product = 1
    for text in kinds.atoms:
        product = product * weight_of(text)
    return product


def kinds_under(head, questions):
    """The kinds that stand behind this word in some question, each once."""
    return sorted({kind for question in questions for kind in kinds_behind(head, question.part)})


def product_of(kinds, questions):
    """The product of a space."""
    product = kinds_product(kinds)
    for _ in kinds_under("earlier", questions) + kinds_under("later", questions):
        product = product * 2
    for question in questions:
        for _ in outers_of(question.part):
            product = product * 4
    return product


def refuse_great(product):
    """Raises TooGreat if a product is beyond the limit."""
    if product > MOST:
        raise TooGreat(product)


class Space:
    """Kinds, rules and numbered questions; what is worked out for its houses is kept with it."""

    def __init__(self, kinds, rules, questions=()):
        if len(questions) > 3:
            raise TooMany("questions")
        rules.refuse_unknown(kinds)
        for question in questions:
            question.refuse_unknown(kinds)
        refuse_great(product_of(kinds, questions))
        self._kinds = kinds
        self._rules = rules
        self._questions = tuple(questions)
        self.machine = Machine(kinds, rules, kinds_under("earlier", questions), kinds_under("later", questions))
        if not any(self.machine.roots):
            raise NoDocument()
        self._bases = []
        self._smaller = {}

    @property
    def kinds(self):
        """Its kinds."""
        return self._kinds

    @property
    def rules(self):
        """Its rules."""
        return self._rules

    @property
    def questions(self):
        """The tuple of its questions."""
        return self._questions

    def __eq__(self, other):
        if not isinstance(other, Space):
            return False
        return (self._kinds == other._kinds and self._rules == other._rules
                and self._questions == other._questions)

    def __len__(self):
        return len(self._questions)

    def bases(self):
        """What is worked out for its houses."""
        if not self._bases:
            self._bases = [Bases(self.machine, [question.part for question in self._questions])]
        return self._bases[0]

    def without(self, number):
        """The space without a question."""
        if number not in self._smaller:
            rest = self._questions[:number] + self._questions[number + 1:]
            self._smaller[number] = Space(self._kinds, self._rules, rest)
        return self._smaller[number]
