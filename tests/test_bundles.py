"""[38] to [40] Bundles: rows of trees, putting them into houses, and which ones are like one another."""

import unittest

from keptnomore.bundles import Bundle
from keptnomore.errors import NoBundle, OtherSpace, Refused, Resting
from keptnomore.houses import House
from keptnomore.kinds import Kinds
from keptnomore.questions import Question
from keptnomore.rules import Rules
from keptnomore.spaces import Space
from keptnomore.trees import Tree, events_of
from tests.drawn import CLOSE, drawn_events, drawn_space, names_of, seeded


def space_of(kinds, rules="", *questions):
    return Space(Kinds.read(kinds), Rules.read(rules), [Question.read(text) for text in questions])


SPACE = space_of("kind A of a\nkind B of b", "", "later A", "is B")


def house_in(space, text):
    house = House(space)
    house.run(events_of(text))
    return house


class Making(unittest.TestCase):
    def test_trees(self):
        for text in ("", "a:1 /", "a:1 / b:2 /", "x:5 a:1 b:2 / / c:3 / / x:4 / x:6 x:7 / /"):
            with self.subTest(text):
                for bundle in (Bundle.read(SPACE, text), Bundle(SPACE, events_of(text)),
                               Bundle(space=SPACE, events=tuple(events_of(text))), Bundle.read(space=SPACE, text=text)):
                    self.assertIsInstance(bundle.trees, tuple)
                    self.assertEqual(str(bundle), text)
                    self.assertEqual(" ".join([str(tree) for tree in bundle.trees]), text)
                    self.assertEqual([str(tree) for tree in bundle], [str(tree) for tree in bundle.trees])
                    self.assertTrue(all(isinstance(tree, Tree) for tree in bundle))
                    self.assertEqual(len(bundle), len(bundle.trees))
                    self.assertTrue(bundle.space == SPACE)
        self.assertEqual([len(Bundle.read(SPACE, text)) for text in ("", "a:1 /", "a:1 / b:2 c:3 / /")], [0, 1, 2])

    def test_what_is_none(self):
        rows = [
            ("/", 0), ("a:1", 1), ("a:1 / /", 2), ("a:1 / b:2", 3), ("a:1 b:2 / / c:3 / / d:4 /", 6), ("a:1 b:2 /", 3),
            ("a", 0), ("a:1 b", 1), ("a:1 / A:2 /", 2), ("a:1 // /", 1), (" ", 0), ("a:1  /", 1), ("a:1 / ", 2),
            ("any:1 /", 0), ("a:01 /", 0), ("a:1 /\n", 1),
        ]
        for text, at in rows:
            with self.subTest(text):
                with self.assertRaises(NoBundle) as caught:
                    Bundle.read(SPACE, text)
                self.assertEqual(caught.exception.at, at)

    def test_values_that_are_no_events(self):
        good = events_of("a:1 b:2 / /")
        for value in (None, "close", ["close"], ("close", 1), ("open", "a", True), ("open", "other", 3), 7, {}):
            for at in range(5):
                with self.assertRaises(NoBundle) as caught:
                    Bundle(SPACE, good[:at] + [value] + good[at:])
                self.assertEqual(caught.exception.at, at)
        for at, row in ((1, good[:1]), (3, good[:3]), (0, good[3:]), (4, good + [CLOSE])):
            with self.assertRaises(NoBundle) as caught:
                Bundle(SPACE, row)
            self.assertEqual(caught.exception.at, at)

    def test_whether_it_can_be_allowed_is_not_looked_at(self):
        space = space_of("kind A of a", "all A")
        self.assertEqual(len(Bundle.read(space, "x:1 / y:2 /")), 2)

    def test_a_later_change_of_the_list_has_no_effect(self):
        events = events_of("a:1 /")
        bundle = Bundle(SPACE, events)
        events.extend(events_of("b:2 /"))
        self.assertEqual(str(bundle), "a:1 /")

    def test_properties(self):
        bundle = Bundle.read(SPACE, "a:1 /")
        for name in ("space", "trees"):
            with self.assertRaises(AttributeError):
                setattr(bundle, name, None)
        self.assertFalse(bundle == Bundle.read(SPACE, "a:1 /"))


class Putting(unittest.TestCase):
    def test_put(self):
        house = house_in(SPACE, "x:1 x:9 / x:8 /")
        self.assertEqual(house.put(Bundle.read(SPACE, "b:3 / a:2 b:7 x:6 / a:5 / / /")),
                         [(0, 3), (0, 6), (0, 8), (0, 9), (1, 3), (1, 7)])
        house = house_in(SPACE, "x:1")
        self.assertEqual(house.put(bundle=Bundle.read(SPACE, "")), [])
        self.assertEqual(house.put(Bundle.read(SPACE, "b:5 / b:3 /")), [(1, 3), (1, 5)])
        self.assertEqual(house.pending(), [(0, 3), (0, 5)])
        self.assertEqual(house.put(Bundle.read(SPACE, "a:2 /")), [(0, 3), (0, 5)])

    def test_it_does_what_the_events_do(self):
        for seed in range(40):
            rng = seeded("put", seed)
            space = drawn_space(rng, most=48)
            house = House(space)
            house.run(drawn_events(rng, house, rng.randint(1, 6)))
            events = drawn_row(rng, names_of(space), rng.randint(0, 4), 100)
            bundle = Bundle(Space(space.kinds, space.rules, space.questions), events)
            other = house.copied()
            kept = house.kept()
            try:
                told = house.put(bundle)
            except Resting:
                self.assertTrue(house.is_resting)
                continue
            except Refused as error:
                self.assertIs(error.event, bundle)
                self.assertEqual(house.kept(), kept)
                with self.assertRaises(Exception):
                    other.run(events)
                continue
            self.assertEqual(told, sorted(pair[1:] for pair in other.run(events)))
            self.assertEqual(house.kept(), other.kept())

    def test_exceptions_and_their_order(self):
        space = space_of("kind A of a", "all A", "later A")
        bad, good = Bundle.read(space, "a:1 / x:2 /"), Bundle.read(space, "a:1 /")
        with self.assertRaises(OtherSpace):
            House(SPACE).put(bad)
        for bundle in (bad, good, Bundle.read(space, "")):
            with self.assertRaises(Resting):
                House(space).put(bundle)
        house = house_in(space, "a:5 a:6 /")
        kept = house.kept()
        with self.assertRaises(Refused) as caught:
            house.put(bad)
        self.assertIs(caught.exception.event, bad)
        self.assertEqual(house.kept(), kept)
        self.assertEqual(house.put(good), [(0, 6)])


def drawn_row(rng, names, many, free):
    row = []
    depth = 0
    for _ in range(many):
        while depth and rng.random() < 0.45:
            row.append(CLOSE)
            depth -= 1
        row.append(("open", rng.choice(names), free))
        free += 1
        depth += 1
    return row + [CLOSE] * depth


def put(house, bundle):
    """What a copy is told, and what comes of it; None if it refuses."""
    house = house.copied()
    try:
        return house.put(bundle), house.kept()
    except Refused:
        return None


class Likeness(unittest.TestCase):
    def compare(self, one, other, is_like):
        self.assertIs(one.is_like(other), is_like)
        self.assertIs(other.is_like(one), is_like)
        row = one.unlike(other, free=1000)
        if is_like:
            self.assertIsNone(row)
            return
        self.assertIsInstance(row, tuple)
        marks = [event[2] for event in row if len(event) == 3]
        self.assertEqual(marks, list(range(1000, 1000 + len(marks))))
        house = House(one.space)
        house.run(row)
        self.assertIs(house.is_resting, False)
        self.assertNotEqual(put(house, one), put(house, other))

    def check(self, space, one, other, is_like):
        with self.subTest(f"{one} | {other}"):
            self.compare(Bundle.read(space, one), Bundle.read(space, other), is_like)

    def test_by_hand(self):
        space = space_of("kind A of a\nkind B of b\nkind C of c where some A", "", "later A", "is C")
        for one, other, is_like in (
                ("", "", True), ("x:1 /", "y:1 /", True), ("x:1 /", "b:1 /", True), ("x:1 /", "a:1 /", False),
                ("a:1 /", "a:2 /", False), ("x:1 /", "x:2 /", False), ("x:1 x:2 / /", "x:1 x:3 / /", True),
                ("x:1 x:2 / /", "x:1 /", True), ("x:1 x:2 / a:3 / /", "x:1 x:2 / a:4 x:7 / / /", True),
                ("x:1 x:2 / a:3 / /", "x:1 x:4 / a:3 / /", False), ("c:1 a:2 / /", "c:1 b:2 / /", False),
                ("c:1 b:2 / /", "x:1 /", True), ("c:1 a:2 / /", "c:1 b:3 / a:2 / /", False),
                ("", "x:1 /", False), ("a:1 / x:2 /", "x:1 / a:2 /", False)):
            self.check(space, one, other, is_like)

    def test_marks_that_no_house_can_tell(self):
        space = space_of("kind A of a\nkind B of b", "", "is A")
        self.check(space, "b:1 x:2 / /", "x:3 /", True)
        self.check(space, "", "b:1 x:2 / /", True)
        self.check(space, "a:1 b:2 / /", "x:7 a:1 / / b:5 /", True)
        self.check(space, "a:1 /", "a:2 /", False)
        self.check(space, "a:1 / a:2 /", "a:2 a:1 / /", True)

    def test_bundles_that_every_house_refuses(self):
        space = space_of("kind A of a\nkind B of b", "all A", "is A")
        self.check(space, "x:1 /", "a:1 b:2 / /", True)
        self.check(space, "x:1 /", "", False)
        self.check(space, "x:1 /", "a:2 /", False)
        space = space_of("kind A of a\nkind B of any where every A", "root B")
        # The first one has a use deeper down.
        self.check(space, "b:1 /", "a:1 /", False)
        space = space_of("kind A of a\nkind B of any where every A\nkind C of any where not some B", "all B")
        self.check(space, "b:1 /", "x:1 /", True)
        self.check(space, "b:1 /", "a:1 /", False)
        self.check(space, "b:1 /", "a:1 b:2 / /", True)

    def test_what_hangs_on_nodes_around_them(self):
        space = space_of("kind A of a\nkind B of b", "", "above later A")
        self.check(space, "x:1 /", "b:1 /", True)
        self.check(space, "x:1 /", "a:1 /", False)
        space = space_of("kind A of a\nkind B of b", "", "earlier A and parent is B")
        self.check(space, "a:1 /", "a:1 / a:2 /", False)
        self.check(space, "a:1 / a:2 /", "a:3 / a:2 /", False)
        self.check(space, "b:1 /", "", False)
        self.check(space, "a:1 / b:2 /", "a:1 / b:2 a:8 / x:7 / /", False)
        self.check(space, "a:1 / b:2 /", "a:1 / b:2 x:7 / /", True)
        self.check(space, "a:1 / x:2 /", "a:1 / x:2 x:7 / /", True)
        space = space_of("kind A of any where count B mod 2 is 0\nkind B of b", "", "above is A and root")
        self.check(space, "b:1 /", "", True)
        space = space_of("kind A of any where count B mod 2 is 0\nkind B of b", "", "parent is A and not is A")
        self.check(space, "b:1 / b:2 /", "", True)
        self.check(space, "b:1 b:2 / /", "b:2 /", False)
        space = space_of("kind A of any where below B\nkind B of b", "root A")
        self.check(space, "b:1 /", "x:2 b:1 / /", True)
        self.check(space, "b:1 /", "x:2 /", False)

    def test_drawn_bundles(self):
        met = {True: 0, False: 0}
        for seed in range(120):
            rng = seeded("like", seed)
            space = drawn_space(rng, most=48, questions=(0, 2))
            names = names_of(space)
            houses = []
            for _ in range(8):
                house = House(space)
                house.run(drawn_events(rng, house, rng.randint(1, 8), free=100))
                if not house.is_resting:
                    houses.append(house)
            for _ in range(5):
                first = drawn_row(rng, names, rng.randint(0, 3), 1)
                second = [("open", rng.choice(names), event[2]) if len(event) == 3 and rng.random() < 0.3 else event
                          for event in first]
                if rng.random() < 0.5:
                    second = drawn_row(rng, names, rng.randint(0, 3), rng.choice([1, 50]))
                one, other = Bundle(space, first), Bundle(space, second)
                is_like = one.is_like(other)
                with self.subTest(f"{seed}: {one} | {other}"):
                    self.compare(one, other, is_like)
                    if is_like:
                        for house in houses:
                            self.assertEqual(put(house, one), put(house, other))
                met[is_like] += first != second
        self.assertGreater(min(met.values()), 50)

    def test_other_spaces(self):
        one = Bundle.read(SPACE, "a:1 /")
        other = Bundle.read(space_of("kind A of a", ""), "a:1 /")
        self.assertIs(one.is_like(other=other), False)
        for work in (one.glued, lambda bundle: one.unlike(bundle, free=5)):
            with self.assertRaises(OtherSpace):
                work(other)
        with self.assertRaises(TypeError):
            one.unlike(one, 5)

    def test_the_same_space_made_twice(self):
        one = Bundle.read(SPACE, "a:1 /")
        other = Bundle.read(space_of("kind A of a\nkind B of b", "", "later A", "is B"), "a:1 /")
        self.assertIs(one.is_like(other), True)
        self.assertIsNone(one.unlike(other=other, free=5))
        self.assertEqual(str(one.glued(Bundle.read(other.space, "b:2 /"))), "a:1 / b:2 /")

    def test_glued(self):
        for one, other in (("", ""), ("a:1 /", ""), ("", "a:1 /"), ("a:1 b:2 / /", "x:3 / a:4 /")):
            found = Bundle.read(SPACE, one).glued(other=Bundle.read(SPACE, other))
            self.assertIsInstance(found, Bundle)
            self.assertEqual(str(found), " ".join([text for text in (one, other) if text]))
        house = house_in(SPACE, "x:9 x:8 /")
        first, second = Bundle.read(SPACE, "x:1 / b:2 /"), Bundle.read(SPACE, "a:3 /")
        other = house.copied()
        self.assertEqual(sorted(other.put(first) + other.put(second)), house.put(first.glued(second)))
        self.assertEqual(house.kept(), other.kept())


if __name__ == "__main__":
    unittest.main()
