"""Questions and rules compared: whether one says more than another, and the smallest documents that show it."""

from heapq import heappop, heappush

from keptnomore.conditions import joined
from keptnomore.machines import Machine
from keptnomore.plans import events_of_plan, plan_along
from keptnomore.spaces import kinds_product, refuse_great
from keptnomore.trees import Tree
from keptnomore.views import Seeing


def smallest_plan(machine, part):
    """The plan of an allowed document with as few nodes as possible in which a node is selected, or None."""
    seeing = Seeing(machine, part)
    done = {}
    queue = [(0, 1, letter, 0, (letter,)) for letter, is_root in enumerate(machine.roots) if is_root]
    while queue:
        cost, is_open, letter, point, way = heappop(queue)
        if not is_open:
            return plan_along(machine, way[0], list(way[1:]))
        if (letter, point) in done:
            continue
        done[(letter, point)] = True
        if seeing.said_at(machine.letters[letter][0], point)[0]:
            heappush(queue, (cost + machine.costs[letter], 0, letter, point, way))
        for triple in machine.families().triples(letter):
            place = seeing.point_below(letter, point, triple)
            if (triple[0], place) not in done:
                heappush(queue, (cost + machine.families().cost(letter, triple), 1, triple[0], place, way + (triple,)))
    return None


def tree_of_plan(machine, plan, free):
    """The tree of a plan, or None."""
    if plan is None:
        return None
    return Tree.from_events(events_of_plan(machine, plan, free))


def parting_part(space, one, other):
    """What holds at a node that the question `one` selects and `other` doesn't."""
    return joined("and", [space.questions[one].part, ("not", space.questions[other].part)])


def says(space, one, other):
    """Whether in each allowed document the second question selects all that the first one selects."""
    return smallest_plan(space.machine, parting_part(space, one, other)) is None


def parted(space, one, other, *, free):
    """The smallest document in which the first question selects a node that the second one doesn't, or None."""
    return tree_of_plan(space.machine, smallest_plan(space.machine, parting_part(space, one, other)), free)


def breaking_part(rules):
    """What holds at a node that breaks a row of the rules; there is one."""
    parts = []
    for head, kind in rules.rows:
        part = ("not", ("atom", ("is", kind)))
        parts.append(part if head == "all" else ("and", (("atom", ("root",)), part)))
    return parts[0] if len(parts) == 1 else ("or", tuple(parts))


def apart_on(kinds, one, other):
    """The machine of the rules `one`, and the plan of their smallest document that `other` doesn't allow, or None."""
    one.refuse_unknown(kinds)
    other.refuse_unknown(kinds)
    refuse_great(kinds_product(kinds))
    machine = Machine(kinds, one, [], [])
    return machine, smallest_plan(machine, breaking_part(other)) if other.rows else None


def stricter(kinds, one, other):
    """Whether each document that is allowed by the rules `one` is allowed by `other`."""
    return apart_on(kinds, one, other)[1] is None


def let_apart(kinds, one, other, *, free):
    """The smallest document that is allowed by the rules `one` and not by `other`, or None."""
    machine, plan = apart_on(kinds, one, other)
    return tree_of_plan(machine, plan, free)
