"""Conditions, which kinds and questions are put together of.

A condition is a pair of a head and what stands under it: ("atom", words), ("not", condition),
("parent", condition), ("above", condition), ("and", conditions) or ("or", conditions). What stands
under `and` has no `and` directly, and likewise `or`: the texts don't tell them apart.
"""

from keptnomore.words import is_kind_name

JOINTS = ("and", "or")
OUTER = ("parent", "above")
HEADS = ("not", "parent", "above")


def fits(form, words):
    """Whether an atom of this form can begin with these words; "K" in a form stands for any kind name."""
    return all([is_kind_name(word) if slot == "K" else word == slot for slot, word in zip(form, words)])


def count_of(words, wanted):
    """How many of the words are among the wanted ones."""
    return len([word for word in words if word in wanted])


def joined(joint, parts):
    """The condition of these parts with the joint between them."""
    flat = []
    for part in parts:
        if part[0] == joint:
            flat.extend(part[1])
        else:
            flat.append(part)
    return (joint, tuple(flat))


class Reading:
    """Takes the words of a condition one by one.

    What is not complete waits in lists: calls within one another would fail for parentheses that are too deep.
    """

    def __init__(self, forms, heads):
        self._forms = forms
        self._heads = heads
        self._parts = []
        self._waiting = []
        self._begun = []
        self._is_whole = False

    def take(self, word):
        """Whether behind the words so far this one can stand in a condition."""
        if self._is_whole:
            return self._take_behind(word)
        if not self._begun and (word == "(" or word in self._heads):
            self._waiting.append(word)
            return True
        return self._take_in_atom(word)

    def ended(self):
        """The condition, or None if its words end too early."""
        if not self._is_whole:
            return None
        self._gather(JOINTS)
        if self._waiting:
            return None
        return self._parts[0]

    def _take_in_atom(self, word):
        begun = self._begun + [word]
        fitting = [form for form in self._forms if fits(form, begun)]
        if not fitting:
            return False
        self._begun = begun
        # No form is the beginning of another one, so what fills one is that atom.
        if len(fitting[0]) == len(begun):
            self._begun = []
            self._put(("atom", tuple(begun)))
        return True

    def _take_behind(self, word):
        if word == ")":
            return self._close()
        if word not in JOINTS:
            return False
        # `and` binds more tightly, so it waits for no `or` behind it.
        if word == "or":
            self._gather(("and",))
        self._waiting.append(word)
        self._is_whole = False
        return True

    def _close(self):
        self._gather(JOINTS)
        if not self._waiting:
            return False
        self._waiting.pop()
        self._put(self._parts.pop())
        return True

    def _put(self, part):
        while self._waiting and self._waiting[-1] in self._heads:
            part = (self._waiting.pop(), part)
        self._parts.append(part)
        self._is_whole = True

    def _gather(self, joints):
        while self._waiting and self._waiting[-1] in joints:
            joint = self._waiting.pop()
            right = self._parts.pop()
            left = self._parts.pop()
            self._parts.append(joined(joint, [left, right]))


def is_enclosed(part, head):
    """Whether a condition directly under this head stands in parentheses."""
    return part[0] == "or" or (part[0] == "and" and head not in JOINTS)


def text_under(part, head):
    """The text of a condition as it stands directly under this head."""
    if is_enclosed(part, head):
        return f"( {text_of(part)} )"
    return text_of(part)


def text_of(part):
    """The text of a condition, with parentheses only where the meaning needs them."""
    head, under = part
    if head == "atom":
        return " ".join(under)
    if head in JOINTS:
        return f" {head} ".join([text_under(one, head) for one in under])
    return f"{head} {text_under(under, head)}"


def depth_of(words):
    """How many parentheses and heads stand within one another, in the words of a condition."""
    deepest = 0
    held = []
    depth = 0
    heads = 0
    for word in words:
        if word in HEADS:
            heads += 1
        elif word == "(":
            held.append(heads + 1)
            depth = depth + heads + 1
            heads = 0
        else:
            if word == ")":
                depth = depth - held.pop()
            heads = 0
        deepest = max(deepest, depth + heads)
    return deepest


def atoms_of(part):
    """The atoms of a condition in their order; behind an atom with an outer condition come those in it."""
    head, under = part
    if head == "atom":
        return [part]
    if head in JOINTS:
        return [atom for one in under for atom in atoms_of(one)]
    if head in OUTER:
        return [part] + atoms_of(under)
    return atoms_of(under)


def outer_texts(part):
    """The texts of the outer conditions in a condition."""
    return [text_of(atom[1]) for atom in atoms_of(part) if atom[0] in OUTER]


def holds(part, truths):
    """Whether a condition holds, if its atoms hold as `truths` tells of their texts."""
    head, under = part
    if head == "not":
        return not holds(under, truths)
    if head == "and":
        return all([holds(one, truths) for one in under])
    if head == "or":
        return any([holds(one, truths) for one in under])
    return truths[text_of(part)]
