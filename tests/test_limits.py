"""[3] Inputs at the limits are answered without an error and within a short time; so are those somewhat beyond."""

import time
import unittest

from keptnomore.errors import NoTree
from keptnomore.kinds import Kinds
from keptnomore.questions import Question
from keptnomore.trees import Tree, events_of, words_of

SHORT = 5

# Four kinds, each with four names and a condition of eight atoms, six deep.
FULL_KINDS = Kinds.read("\n".join(
    f"kind {word} of {names} where not ( not ( not ( some AAAA or BBBB then CCCC ) and every DDDD ) )"
    f" or first AAAA and last BBBB or count CCCC mod 3 is {rest} and not below DDDD or BBBB next AAAA"
    for word, names, rest in (("AAAA", "a b abcdefgh any", 0), ("BBBB", "b c d other", 1),
                              ("CCCC", "c other a z", 2), ("DDDD", "any other d e", 0))))
# Eight atoms, six deep, and two unlike outer conditions.
FULL_QUESTION = Question.read(
    "not ( not ( not ( is AAAA or root ) ) ) and above not later BBBB"
    " or not parent is CCCC and ( earlier DDDD or is BBBB )")


def chain(nodes):
    """A tree that is so deep."""
    return words_of([("open", "a", k) for k in range(nodes)] + [("close",)] * nodes)


def star(nodes):
    """A root with so many nodes below it, less one."""
    return " ".join(["r:0"] + [f"{'abcd'[k % 4]}:{k + 1} /" for k in range(nodes - 1)] + ["/"])


def comb(depth, nodes):
    """A tree that is so deep, of so many nodes: each node of a chain has leaves."""
    leaves = (nodes - depth) // (depth - 1)
    tree, mark = Tree("d", 10 ** 9 - 1), 0
    for _ in range(depth - 1):
        children = [tree]
        for k in range(leaves):
            children.append(Tree("abcd"[mark % 4], mark))
            mark += 1
        tree = Tree("abcd"[mark % 4], 10 ** 6 + mark, children)
    return tree


class AtTheLimits(unittest.TestCase):
    def setUp(self):
        self.began = time.perf_counter()

    def tearDown(self):
        self.assertLess(time.perf_counter() - self.began, SHORT)

    def check(self, text):
        """Reads a tree, and asks all that can be asked of it."""
        tree = Tree.read(text)
        nodes = list(tree)
        self.assertEqual(len(nodes), len(tree))
        self.assertEqual(str(tree), text)
        self.assertEqual(tree, Tree.from_events(list(tree.events())))
        self.assertEqual(words_of(events_of(text)), text)
        table = FULL_KINDS.table(tree)
        self.assertEqual(list(table), [node.mark for node in nodes])
        self.assertEqual(table[nodes[0].mark], FULL_KINDS.of(tree))
        picked = FULL_QUESTION.picks(FULL_KINDS, tree)
        denied = (~FULL_QUESTION).picks(FULL_KINDS, tree)
        self.assertEqual(sorted(picked + denied), sorted(table))
        return tree

    def test_a_deep_tree(self):
        self.assertEqual(len(self.check(chain(40))), 40)

    def test_a_wide_tree(self):
        self.assertEqual(len(self.check(star(200))), 200)

    def test_a_tree_that_is_both(self):
        tree = comb(40, 200)
        self.assertGreater(len(tree), 190)
        self.check(str(tree))

    def test_somewhat_beyond(self):
        self.check(chain(60))
        self.check(star(300))

    def test_deep_trees_are_compared(self):
        one, other = Tree.read(chain(40)), Tree.read(chain(40).replace("a:39", "b:39"))
        self.assertIs(one == Tree.read(chain(40)), True)
        self.assertIs(one == other, False)

    def test_rows_of_400_events(self):
        events = [("open", "abcdefgh", 10 ** 9 - 1)] * 200 + [("close",)] * 200
        self.assertEqual(events_of(words_of(events)), events)
        flat = events_of(star(200))
        self.assertEqual(len(flat), 400)
        with self.assertRaises(NoTree) as caught:
            Tree.from_events(flat[:399])
        self.assertEqual(caught.exception.at, 399)
        with self.assertRaises(NoTree) as caught:
            Tree.read(words_of(flat[:398] + [("close",)] * 3))
        self.assertEqual(caught.exception.at, 400)

    def test_kinds_at_the_limits(self):
        self.assertEqual(len(FULL_KINDS), 4)
        self.assertEqual(Kinds.read(str(FULL_KINDS)), FULL_KINDS)
        self.assertEqual(FULL_KINDS.names, ("a", "abcdefgh", "b", "c", "d", "e", "z"))

    def test_questions_at_the_limits(self):
        self.assertEqual(Question.read(str(FULL_QUESTION)), FULL_QUESTION)
        self.assertEqual(Question.read("not not not not not not root").picks(Kinds.read(""), Tree.read("a:1 /")), [1])

    def test_two_outer_conditions_within_one_another(self):
        question = Question.read("above ( above ( is A or earlier B ) and later A or is B )")
        kinds = Kinds.read("kind A of a\nkind B of b c")
        tree = comb(40, 200)
        near = [tree, *tree.children]
        self.assertEqual([node.name for node in near], ["a", "a", "a", "b", "c", "d"])
        expected = sorted(node.mark for node in tree if node.mark not in [one.mark for one in near])
        self.assertEqual(question.picks(kinds, tree), expected)

    def test_the_answers_for_a_deep_tree(self):
        tree = Tree.read(chain(40))
        kinds = Kinds.read("kind A of a where not some A\nkind B of any where below A and count B mod 2 is 0")
        table = kinds.table(tree)
        self.assertEqual([k for k in range(40) if "A" in table[k]], list(range(1, 40, 2)))
        self.assertEqual([k for k in range(40) if "B" in table[k]], list(range(0, 40, 2)))
        self.assertEqual(Question.read("above ( is A and above is B )").picks(kinds, tree), list(range(2, 40)))
        self.assertEqual(Question.read("not above not root").picks(kinds, tree), [0, 1])


if __name__ == "__main__":
    unittest.main()
