"""[5], [31] to [33], [35] What is kept: one text for houses that are alike, and rows that part the others."""

import unittest

from keptnomore.bundles import Bundle
from keptnomore.compared import parted, says
from keptnomore.errors import OtherSpace, Refused
from keptnomore.houses import House
from keptnomore.kinds import Kinds
from keptnomore.partings import width
from keptnomore.questions import Question
from keptnomore.rules import Rules
from keptnomore.spaces import Space
from keptnomore.trees import events_of, words_of
from tests.drawn import CLOSE, drawn_events, drawn_space, names_of, seeded


def space_of(kinds, rules="", *questions):
    return Space(Kinds.read(kinds), Rules.read(rules), [Question.read(text) for text in questions])


def house_in(space, text):
    house = House(space)
    house.run(events_of(text))
    return house


def played(house, row):
    """What each event told a copy of the house, or None where it was refused and skipped."""
    house = house.copied()
    told = []
    for event in row:
        try:
            told.append(house.take(event))
        except Refused:
            told.append(None)
    return told


class Base(unittest.TestCase):
    def assert_alike(self, one, other, rng=None, rows=10):
        self.assertEqual(one.kept(), other.kept())
        self.assertIs(one.is_alike(other), True)
        self.assertIsNone(one.parting(other, free=1000))
        self.assertEqual(one.pending(), other.pending())
        self.assertEqual(one.heaps(), other.heaps())
        self.assertEqual(one.depth, other.depth)
        self.assertEqual(one.may(), other.may())
        self.assertEqual(one.hopes(), other.hopes())
        self.assertEqual(len(one.ending(free=1000)), len(other.ending(free=1000)))
        if rng is not None:
            for _ in range(rows):
                row = drawn_row(rng, names_of(one.space), rng.randint(1, 14))
                self.assertEqual(played(one, row), played(other, row), words_of(row))

    def assert_unlike(self, one, other):
        self.assertNotEqual(one.kept(), other.kept())
        self.assertIs(one.is_alike(other), False)
        row = one.parting(other, free=1000)
        self.assertIsInstance(row, tuple)
        self.assertNotEqual(played(one, row), played(other, row), words_of(row))
        marks = [event[2] for event in row if len(event) == 3]
        self.assertEqual(marks, list(range(1000, 1000 + len(marks))))

    def compare(self, one, other, is_alike, rng=None):
        if is_alike:
            self.assert_alike(one, other, rng)
        else:
            self.assert_unlike(one, other)


def drawn_row(rng, names, many):
    return [CLOSE if rng.random() < 0.5 else ("open", rng.choice(names), 1000 + at) for at in range(many)]


class Drawn(Base):
    """All pairs of some drawn pasts: the texts are equal exactly if no row parts the houses."""

    def check(self, word, seeds, many, length, **more):
        met = {True: 0, False: 0}
        for seed in seeds:
            rng = seeded(word, seed)
            space = drawn_space(rng, **more)
            pasts = [drawn_events(rng, House(space), rng.randint(1, length), close=0.5) for _ in range(many)]
            houses = []
            for past in pasts:
                # A space of its own for each: what is worked out in it comes in another order.
                house = House(Space(space.kinds, space.rules, space.questions) if rng.random() < 0.3 else space)
                house.run(past)
                houses.append(house)
            for at, one in enumerate(houses):
                for other in houses[:at]:
                    is_alike = one.kept() == other.kept()
                    with self.subTest(f"{word} {seed}"):
                        self.compare(one, other, is_alike, rng)
                    met[is_alike] += 1
        self.assertGreater(min(met.values()), 20)

    def test_small_spaces(self):
        self.check("small", range(30), 8, 7, most=24)

    def test_great_spaces(self):
        self.check("great", range(25), 7, 9, most=192, questions=(1, 3))

    def test_one_name(self):
        self.check("one name", range(25), 8, 9, most=48, names="a", kinds="AB")

    def test_without_questions(self):
        self.check("no questions", range(25), 8, 7, questions=(0, 0))

    def test_read(self):
        for seed in range(40):
            rng = seeded("read", seed)
            space = drawn_space(rng, most=96, questions=(1, 3))
            house = House(space)
            house.run(drawn_events(rng, house, rng.randint(1, 9)))
            text = house.kept()
            self.assertIsInstance(text, str)
            self.assertTrue(all(sign == "\n" or " " <= sign <= "~" for sign in text))
            for other in (space, Space(space.kinds, space.rules, space.questions)):
                found = House.read(other, text)
                self.assertIsInstance(found, House)
                self.assert_alike(house, found, rng, 4)
                row = drawn_row(rng, names_of(space), 12)
                for event in row:
                    self.assertEqual(played(house, [event]), played(found, [event]))
                    if played(house, [event]) != [None]:
                        house.take(event)
                        found.take(event)
                        self.assertEqual(house.kept(), found.kept())
                for question, mark in house.pending():
                    self.assertEqual(house.why(question, mark, free=2000), found.why(question, mark, free=2000))
                if house.depth <= 2:
                    self.assertEqual(len(house.shortest(free=1)), len(found.shortest(free=1)))
                house = House.read(space, text)

    def test_houses_that_are_alike_stay_alike(self):
        for seed in range(25):
            rng = seeded("stay", seed)
            space = drawn_space(rng, most=48)
            pasts = [drawn_events(rng, House(space), rng.randint(1, 8), close=0.5) for _ in range(12)]
            houses = [House(space) for _ in pasts]
            for house, past in zip(houses, pasts):
                house.run(past)
            for at, one in enumerate(houses):
                for two in houses[:at]:
                    if one.kept() == two.kept():
                        first, second = one.copied(), two.copied()
                        for event in drawn_row(rng, names_of(space), 10):
                            self.assertEqual(played(first, [event]), played(second, [event]))
                            if played(first, [event]) != [None]:
                                first.take(event)
                                second.take(event)
                                self.assertEqual(first.kept(), second.kept())


class ByHand(Base):
    def check(self, space, one, other, is_alike):
        with self.subTest(f"{one} | {other}"):
            self.compare(house_in(space, one), house_in(space, other), is_alike, seeded(one, other))

    def test_one_text_at_rest(self):
        space = space_of("kind A of a\nkind B of b where some A", "", "later A", "parent is B")
        text = House(space).kept()
        for past in ("a:1 /", "b:1 a:2 / /", "x:9 x:8 x:7 / / b:1 / / a:3 /"):
            self.assertEqual(house_in(space, past).kept(), text)
        self.assertIs(House.read(space, text).is_resting, True)

    def test_numbers_of_open_nodes(self):
        space = space_of("kind A of a\nkind B of b", "", "is A")
        for one, other in (("x:1", "x:1 x:2"), ("a:1 a:2 a:3", "a:1"), ("", "x:1"), ("x:1 x:2 /", "x:1 x:2")):
            self.check(space, one, other, False)
            self.check(space, other, one, False)
        space = space_of("kind A of a", "root A")
        self.check(space, "a:1", "a:1 a:2", False)
        self.check(space, "", "a:1", False)

    def test_names_that_stand_in_the_same_rows(self):
        space = space_of("kind A of a b\nkind B of any where some A", "", "later A", "parent is A and is B")
        self.check(space, "a:1 x:2", "b:1 x:2", True)
        self.check(space, "x:1 a:2 / y:3", "q:1 b:2 / zz:3", True)
        self.check(space, "a:1 a:2 /", "b:1 b:3 /", False)
        self.check(space, "a:1 a:2 / x:3", "b:1 x:9 / b:2 / x:3", True)
        self.check(space, "a:1", "x:1", False)

    def test_names_on_which_nothing_hangs(self):
        space = space_of("kind A of a\nkind B of b", "", "is A")
        self.check(space, "x:1 a:2 / b:3", "b:7 x:8", True)
        space = space_of("kind A of a\nkind B of b", "", "parent is A")
        self.check(space, "a:1 b:2", "a:1 x:5", True)
        self.check(space, "x:1 b:2", "b:7 zz:5", True)
        self.check(space, "a:1 b:2", "x:1 b:5", False)
        self.check(space, "b:1", "x:1", True)
        self.check(space, "a:1", "x:1", False)

    def test_marks_on_which_nothing_hangs(self):
        space = space_of("kind A of a\nkind B of b", "", "later A")
        self.check(space, "x:1 x:2 / x:3", "x:1 x:4 / x:3", False)
        self.check(space, "x:1 x:2 / a:3 x:4", "x:7 x:8 / a:3 x:4", True)
        self.check(space, "x:1 x:2 x:3 / / x:4", "x:9 x:2 / x:4", True)
        space = space_of("kind A of a\nkind B of b", "", "later A and not earlier A")
        self.check(space, "x:1 a:2 / x:3 / x:4", "x:1 a:2 / x:5 / x:4", True)
        self.check(space, "x:1 a:2 / x:3 / x:4", "x:1 a:9 / x:3 / x:4", False)
        self.check(space, "x:1 a:2 / a:7 / x:3 / x:4", "x:1 a:9 / a:8 / x:5 / x:4", True)
        self.check(space, "x:1 b:7 / a:2 / x:3 / x:4", "x:1 b:9 / a:2 / x:5 / x:4", True)

    def test_counts(self):
        space = space_of("kind A of any where count B mod 3 is 1\nkind B of b", "", "is A")
        self.check(space, "x:1 b:2 / b:3 /", "x:1 b:4 / b:5 / b:6 / b:7 / b:8 /", True)
        self.check(space, "x:1 b:2 / b:3 /", "x:1 b:4 /", False)
        self.check(space, "x:1", "x:1 b:4 / b:5 / b:6 /", True)
        space = space_of("kind A of any where count B mod 3 is 1\nkind B of b\nkind C of c", "root C", "is B")
        self.check(space, "c:1 b:2 /", "c:3 b:2 / b:5 /", True)

    def test_doubled_children(self):
        space = space_of("kind A of any where B then C or some C\nkind B of b\nkind C of c", "", "is A or earlier B")
        self.check(space, "x:1 b:2 /", "x:1 b:2 / b:3 / x:4 / b:5 /", True)
        self.check(space, "x:1 b:2 /", "x:1", False)

    def test_what_is_decided(self):
        space = space_of("kind A of any where first B or last B\nkind B of b\nkind C of c", "", "is A and not later C")
        self.check(space, "x:7 x:1 b:2 / c:3 /", "x:7 x:1 b:2 /", True)
        self.check(space, "x:7 x:1 x:2 / b:3 /", "x:7 x:1 x:2 / b:3 / x:4 /", False)

    def test_different_ways_to_the_same(self):
        # Whether by a sibling ahead or by the parent, each child is selected, and no deeper node hangs on it.
        space = space_of("kind A of a\nkind B of b", "", "earlier A or parent is B")
        self.check(space, "b:1", "x:1 a:2 /", True)
        self.check(space, "b:1 x:2", "x:1 a:2 / x:3", True)
        self.check(space, "b:1 x:2", "x:1 x:3", False)
        self.check(space, "b:1 x:2 x:4", "x:1 a:2 / x:3 x:5", True)

    def test_outer_nodes_matter_only_as_far_as_the_inner_ones_let_them(self):
        # Node 1 hangs on its last child alone, and one is open.
        space = space_of("kind A of any where last B\nkind B of b", "", "is A and root")
        self.check(space, "x:1 b:2 / x:3", "x:1 x:4", True)
        self.check(space, "x:1 b:2", "x:1 x:2", False)
        # The one wants a child of the kind A and has it open, the other one of the kind B.
        space = space_of("kind A of a\nkind B of b\nkind C of c where some A\nkind D of d where some B", "", "is C or is D")
        self.check(space, "x:1 x:2 a:3", "x:7 x:8 b:9", True)
        space = space_of("kind A of a\nkind B of b\nkind C of c where not some A\nkind D of d where not some B", "",
                         "is C or is D")
        self.check(space, "x:5 c:1 a:2", "x:5 c:1 b:2", False)
        self.check(space, "x:5 c:1 a:2", "x:5 d:1 b:2", True)
        self.check(space, "x:5 c:1 b:2", "x:5 d:1 a:2", False)

    def test_heaps_of_unlike_nodes(self):
        space = space_of("kind A of a\nkind B of any where last A", "", "parent is B")
        house = house_in(space, "x:1 x:2 / x:3 / x:4")
        self.assertEqual(house.heaps(), [(0, (2, 3, 4))])
        # The one node lies below node 1, the other one further down, below one that has to be of the kind B then.
        space = space_of("kind A of a\nkind B of any where last A", "", "above is B")
        self.assertEqual(house_in(space, "x:1 x:2 / x:3 x:4 / x:5 / a:6 x:7").heaps(),
                         [(0, (2, 3)), (0, (4, 5, 6)), (0, (7,))])
        self.assertEqual(house_in(space, "x:1 x:2 / x:3 a:4 / / x:5").pending(), [(0, 2), (0, 3), (0, 5)])
        space = space_of("kind A of a\nkind B of b where some A\nkind C of c where some B", "", "above is C", "is C or is B")
        self.assertEqual(house_in(space, "c:1 b:2 x:3").heaps(), [(0, (2, 3)), (1, (1,)), (1, (2,))])
        self.assertEqual(house_in(space, "c:1 b:2 / b:4 x:3").heaps(), [(0, (2, 3, 4)), (1, (1,)), (1, (4,))])
        self.assertEqual(house_in(space, "c:1 x:2 x:3").heaps(), [(0, (2, 3)), (1, (1,))])

    def test_other_spaces(self):
        one = House(space_of("kind A of a", "", "is A"))
        for other in (House(space_of("kind A of a", "")), House(space_of("kind A of b", "", "is A"))):
            with self.assertRaises(OtherSpace):
                one.parting(other, free=1)
        with self.assertRaises(TypeError):
            one.parting(one, 1)

    def test_arguments_by_name(self):
        space = space_of("kind A of a", "", "later A")
        one, other = house_in(space, "x:1"), house_in(space, "x:1 x:2 /")
        self.assertEqual(one.parting(other=other, free=5), one.parting(other, free=5))
        self.assert_alike(House.read(space=space, text=other.kept()), other)


class Asked(Base):
    """[2] The same call returns an equal result, whatever is called in between."""

    def ask(self, house, other, bundles):
        found = [house.kept(), house.pending(), house.heaps(), house.may(), house.hopes(), house.depth,
                 house.is_resting, house.ending(free=50), house.is_alike(other), house.parting(other, free=60)]
        found.extend([house.why(question, mark, free=70) for question, mark in house.pending()])
        found.extend([house.without(number).kept() for number in range(len(house.space))])
        if house.depth <= 3:
            found.append(house.shortest(free=80))
        found.extend([width(house.space, depth) for depth in (0, 1)])
        found.extend([bundles[0].is_like(bundles[1]), bundles[0].unlike(bundles[1], free=90), str(bundles[0])])
        for one in range(len(house.space)):
            found.extend([says(house.space, one, 0), parted(house.space, one, 0, free=95)])
        return found

    def test_the_same_calls(self):
        for seed in range(25):
            rng = seeded("asked", seed)
            space = drawn_space(rng, most=48, questions=(1, 3))
            house, other = House(space), House(space)
            house.run(drawn_events(rng, house, rng.randint(1, 8), free=100))
            other.run(drawn_events(rng, other, rng.randint(1, 8), free=100))
            names = names_of(space)
            bundles = [Bundle(space, [("open", rng.choice(names), 1), ("open", rng.choice(names), 2), CLOSE, CLOSE])
                       for _ in range(2)]
            first = self.ask(house, other, bundles)
            for _ in range(3):
                other.tried(lambda one: played(one, drawn_row(rng, names, 12)))
                house.copied().run(house.ending(free=200))
                more = House(space)
                more.run(drawn_events(rng, more, 8))
                self.ask(more, other, bundles[::-1])
            self.assertEqual(self.ask(house, other, bundles), first)
            # What was worked out before for the space makes no difference either.
            fresh = Space(space.kinds, space.rules, space.questions)
            again = [House.read(fresh, one.kept()) for one in (house, other)]
            self.assertEqual(self.ask(again[0], again[1], [Bundle.read(fresh, str(one)) for one in bundles]), first)


class Without(Base):
    def test_drawn_houses(self):
        for seed in range(40):
            rng = seeded("without", seed)
            space = drawn_space(rng, most=192, questions=(1, 3))
            house = House(space)
            past = drawn_events(rng, house, rng.randint(1, 9))
            house.run(past)
            kept = house.kept()
            for number in range(len(space)):
                rest = space.questions[:number] + space.questions[number + 1:]
                other = House(Space(space.kinds, space.rules, rest))
                other.run(past)
                found = house.without(number)
                self.assertTrue(found.space == other.space)
                self.assert_alike(found, other, rng, 3)
                self.assert_alike(House.read(space, kept).without(number=number), other)
                found.run(found.ending(free=1000))
                self.assertIs(found.is_resting, True)
            self.assertEqual(house.kept(), kept)

    def test_numbers_of_the_others(self):
        space = space_of("kind A of a\nkind B of b", "", "later A", "later B", "parent ( later A )")
        house = house_in(space, "x:1 x:2 x:3")
        self.assertEqual(house.pending(), [(0, 2), (0, 3), (1, 2), (1, 3), (2, 3)])
        self.assertEqual(house.without(0).pending(), [(0, 2), (0, 3), (1, 3)])
        self.assertEqual(house.without(1).pending(), [(0, 2), (0, 3), (1, 3)])
        self.assertEqual(house.without(2).pending(), [(0, 2), (0, 3), (1, 2), (1, 3)])
        self.assertEqual(house.without(2).without(0).without(0).pending(), [])
        self.assertEqual([str(question) for question in house.without(1).space.questions],
                         ["later A", "parent later A"])


if __name__ == "__main__":
    unittest.main()
