"""Plans: rows of letters, closes and nodes, and the events that they stand for.

In a plan an integer from 0 on stands for a tree with this letter, with as few nodes as possible, CLOSE for a close,
a string for the opening of a node with this name.
"""

from keptnomore.families import word_to
from keptnomore.functions import CLOSE


def events_of_plan(machine, plan, free):
    """The tuple of the events; the nodes have marks from `free` on."""
    events = []
    waiting = list(plan[::-1])
    while waiting:
        step = waiting.pop()
        if isinstance(step, str):
            events.append(("open", step, free))
            free += 1
        elif step == CLOSE:
            events.append(("close",))
        else:
            sort, state = machine.letter_ways[step]
            inside = [machine.names[sort]] + word_to(machine, state) + [CLOSE]
            waiting.extend(inside[::-1])
    return tuple(events)


def plan_along(machine, letter, triples):
    """The plan of a tree with a letter in which the nodes on a way have these triples, one below another."""
    ahead = []
    behind = []
    for triple in triples:
        sort, left, right = machine.families().way(letter, triple)
        ahead = ahead + [machine.names[sort]] + left
        behind = right + [CLOSE] + behind
        letter = triple[0]
    return ahead + [letter] + behind
