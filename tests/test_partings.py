"""[34] How many houses there are that are unlike for nodes to come, and the shortest pasts of such houses."""

import unittest

from keptnomore.houses import House
from keptnomore.kinds import Kinds
from keptnomore.partings import width
from keptnomore.questions import Question
from keptnomore.rules import Rules
from keptnomore.spaces import Space
from keptnomore.trees import Tree, events_of
from tests.drawn import CLOSE, Slow, counted, depth_of, drawn_events, drawn_space, events_of_forest, seeded, splits


def space_of(kinds, rules="", *questions):
    return Space(Kinds.read(kinds), Rules.read(rules), [Question.read(text) for text in questions])


class Signed:
    """What the going ons with up to some new nodes say of these; pasts with the same are taken for alike."""

    def __init__(self, space, most):
        self.space = space
        self.slow = Slow(space)
        self.most = most
        self.row_lists = {}

    def rows(self, depth):
        if depth not in self.row_lists:
            self.row_lists[depth] = [row for many in range(self.most + 1) for row in self.slow.rows(depth, many)]
        return self.row_lists[depth]

    def of(self, past):
        return tuple([self.said(past, row) for row in self.rows(depth_of(past))])

    def said(self, past, row):
        tree = Tree.from_events(past + row)
        if not self.space.rules.lets(self.space.kinds, tree):
            return None
        return tuple(tuple(mark for mark in question.picks(self.space.kinds, tree) if mark >= 1000)
                     for question in self.space.questions)

    def part_by_more(self, one, other):
        return any(self.said(one, row) != self.said(other, row)
                   for many in range(self.most + 1, self.most + 4) for row in self.slow.rows(depth_of(one), many))

    def pasts(self, depth, many):
        """All pasts in one document with so many open nodes, and so many nodes besides; also those that are refused."""
        for names in self.name_rows(depth):
            for split in splits(many, depth):
                yield from self.filled(names, list(split), [])

    def name_rows(self, depth):
        if depth == 0:
            return [()]
        return [(name,) + rest for name in self.slow.names for rest in self.name_rows(depth - 1)]

    def filled(self, names, split, ahead):
        if not split:
            marks = counted(1)
            row = []
            for name, forest in zip(names, ahead):
                row.append(("open", name, next(marks)))
                row.extend(events_of_forest(forest, marks))
            yield row
            return
        for forest in self.slow.forests_of(split[0]):
            yield from self.filled(names, split[1:], ahead + [forest])

    def met(self, depth, most):
        """The unlike signatures of the pasts with up to so many nodes besides the open ones."""
        found = {}
        for many in range(most + 1):
            for past in self.pasts(depth, many):
                signature = self.of(past)
                if any(part is not None for part in signature):
                    found.setdefault(signature, past)
        return found


class Width(unittest.TestCase):
    def test_by_hand(self):
        free = space_of("kind A of a\nkind B of b", "", "is A")
        self.assertEqual([width(free, depth) for depth in (0, 1, 2)], [1, 1, 1])
        # Only whether the parent has the kind A can be seen.
        space = space_of("kind A of a\nkind B of b", "", "parent is A")
        self.assertEqual([width(space=space, depth=depth) for depth in (0, 1, 2)], [1, 2, 4])
        space = space_of("kind A of a\nkind B of b", "", "above is A")
        self.assertEqual([width(space, depth) for depth in (0, 1, 2)], [1, 2, 3])
        space = space_of("kind A of a\nkind B of b", "", "earlier A")
        self.assertEqual([width(space, depth) for depth in (0, 1, 2)], [1, 2, 4])
        space = space_of("kind A of any where count B mod 3 is 0\nkind B of b", "root A")
        self.assertEqual([width(space, depth) for depth in (0, 1)], [1, 3])
        space = space_of("kind A of a", "all A", "is A", "earlier A")
        # All nodes have the kind A, so there is an elder sibling of it behind the close of the inner node.
        self.assertEqual([width(space, depth) for depth in (0, 1, 2)], [1, 2, 2])

    def test_at_rest_it_is_one(self):
        for seed in range(10):
            self.assertEqual(width(drawn_space(seeded("rest", seed), most=96), 0), 1)

    def check(self, space, depth, besides, most):
        met = len(Signed(space, most).met(depth, besides))
        self.assertLessEqual(met, width(space, depth))
        return met == width(space, depth)

    def test_against_a_count(self):
        for kinds, rules, questions in (
                ("kind A of a", "", ["later A"]), ("kind A of a where some B\nkind B of b", "root A", []),
                ("kind A of a where last A or every B\nkind B of a", "all A", []),
                ("kind A of a\nkind B of any where some A", "", ["parent is B"]),
                ("kind A of a\nkind B of any where last A", "", ["earlier A and not root"]),
                ("kind A of a", "root A", ["parent ( is A and root ) or earlier A"]),
                ("kind A of a where count A mod 2 is 0", "root A", []),
                ("kind A of a\nkind B of any where first A", "", ["above not is B"])):
            space = space_of(kinds, rules, *questions)
            with self.subTest(f"{kinds} | {rules} | {questions}"):
                self.assertTrue(self.check(space, 1, 3, 3))
                self.assertTrue(self.check(space, 2, 2, 1))

    def test_drawn_spaces_against_a_count(self):
        same = 0
        for seed in range(16):
            space = drawn_space(seeded("width", seed), most=8, names="a", kinds="AB")
            with self.subTest(f"{space.kinds} | {space.rules} | " + " | ".join(map(str, space.questions))):
                same += self.check(space, 1, 3, 3)
        self.assertGreaterEqual(same, 14)

    def test_the_same_again(self):
        space = drawn_space(seeded("again"), most=24)
        first = [width(space, depth) for depth in (0, 1, 2)]
        House(space).run(drawn_events(seeded("again"), House(space), 8))
        self.assertEqual([width(space, depth) for depth in (0, 1, 2)], first)


class Shortest(unittest.TestCase):
    def test_by_hand(self):
        space = space_of("kind A of a b\nkind B of any where count A mod 3 is 2 and last A", "", "earlier A", "parent is B")
        house = House(space)
        self.assertEqual(house.shortest(free=5), ())
        house.run(events_of("x:1 x:2 / a:3 / b:4 / a:5 / b:6 / a:7 / x:8 a:9 / a:10 / b:11 /"))
        # Five nodes of the kind A and node 8 do the same to node 1 as one and an open node of the kind A: nothing
        # hangs on its last child, since no node comes in it but behind another one.
        found = house.shortest(free=5)
        self.assertEqual(len(found), 2 + 2 * (1 + 3))
        self.assertEqual([event[2] for event in found if len(event) == 3], [5, 6, 7, 8, 9, 10])
        house.run([CLOSE])
        other = House(space)
        other.run(house.shortest(free=1))
        self.assertEqual(other.depth, 1)
        with self.assertRaises(TypeError):
            house.shortest(1)

    def test_against_all_shorter_pasts(self):
        compared = 0
        for seed in range(24):
            rng = seeded("shortest", seed)
            space = drawn_space(rng, most=24, names="a", kinds="AB")
            while width(space, 1) < 5:
                space = drawn_space(rng, most=24, names="a", kinds="AB")
            signed = Signed(space, 2)
            house = House(space)
            past = drawn_events(rng, house, rng.randint(6, 12), limit=2, close=0.45)
            house.run(past)
            kept = house.kept()
            found = house.shortest(free=1)
            self.assertIsInstance(found, tuple)
            self.assertEqual(house.kept(), kept)
            if house.is_resting:
                self.assertEqual(found, ())
                continue
            past = drawn_out(past)
            target = signed.of(past)
            self.assertEqual(signed.of(list(found)), target)
            self.assertEqual(depth_of(found), house.depth)
            marks = [event[2] for event in found if len(event) == 3]
            self.assertEqual(marks, list(range(1, 1 + len(marks))))
            compared += len(marks) - house.depth
            for many in range(len(marks) - house.depth):
                for other in signed.pasts(house.depth, many):
                    # Two more nodes may not be enough to part them.
                    self.assertTrue(signed.of(other) != target or signed.part_by_more(past, other), (seed, past, other))
        self.assertGreater(compared, 6)

    def test_three_open_nodes(self):
        for seed in range(30):
            rng = seeded("three", seed)
            space = drawn_space(rng, most=48)
            house = House(space)
            while house.depth < 3 and not house.is_resting or not house.depth:
                house = House(space)
                past = drawn_events(rng, house, 9, limit=3, close=0.4)
                house.run(past)
                if rng.random() < 0.05:
                    break
            if not house.depth:
                continue
            found = house.shortest(free=1)
            self.assertLessEqual(len(found), len(past))
            other = House(space)
            other.run(found)
            self.assertEqual(other.depth, house.depth)
            row = [("open", name, 1000 + at) for at, name in enumerate(Slow(space).names)]
            for event in row + list(house.ending(free=2000)):
                told = []
                for each in (house, other):
                    if event in row and not each.tried(lambda one: can_take(one, event)):
                        told.append(None)
                    else:
                        told.append([pair for pair in each.take(event) if pair[1] >= 1000])
                self.assertEqual(told[0], told[1])
                if event in row and told[0] is not None:
                    ending = house.ending(free=3000)
                    self.assertEqual([pair for pair in house.copied().run(ending) if pair[2] >= 1000],
                                     [pair for pair in other.copied().run(ending) if pair[2] >= 1000])
                    break


def can_take(house, event):
    word = "other" if event[1] == "zz" else event[1]
    return word in house.may()


def drawn_out(past):
    """The events of the open document alone."""
    begin = 0
    depth = 0
    for at, event in enumerate(past):
        depth += 1 if len(event) == 3 else -1
        if depth == 0:
            begin = at + 1
    return past[begin:]


if __name__ == "__main__":
    unittest.main()
