"""Rules: which documents are allowed."""

from keptnomore.errors import NoRules, TooMany, UnknownKind
from keptnomore.words import is_kind_name, rows_in, words_in


class Rules:
    """Rows that every allowed document keeps: pairs of `all` or `root` and a kind name."""

    def __init__(self, rows):
        self.rows = tuple(rows)
        self._text = "\n".join([f"{head} {kind}" for head, kind in rows])

    @staticmethod
    def read(text):
        """The rules that the text tells."""
        rows = []
        for at, row in enumerate(rows_in(text)):
            words = words_in(row)
            if len(words) != 2 or words[0] not in ("all", "root") or not is_kind_name(words[1]):
                raise NoRules(at)
            rows.append((words[0], words[1]))
        if len(rows) > 3:
            raise TooMany("rows")
        return Rules(rows)

    def __str__(self):
        return f"{self._text}"

    def __eq__(self, other):
        return isinstance(other, Rules) and self._text == other._text

    def kinds_of(self, head):
        """The kinds in the rows with this head."""
        return [row[1] for row in self.rows if row[0] == head]

    def refuse_unknown(self, kinds):
        """Raises UnknownKind for the first row whose kind is none of the kinds."""
        for row in self.rows:
            if row[1] not in kinds:
                raise UnknownKind(row[1])

    def lets(self, kinds, tree):
        """Whether the tree is an allowed document."""
        self.refuse_unknown(kinds)
        found = kinds.by_place(tree)
        if not all([kind in found[0] for kind in self.kinds_of("root")]):
            return False
        return all([kind in having for kind in self.kinds_of("all") for having in found])
