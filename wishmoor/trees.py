"""Trees: the tree that a row of wishes tells, and the row that tells a tree."""

from wishmoor.errors import NoTree
from wishmoor.quays import check_whole

# The root is not counted: it has no parent and is no boat.
MOST_KNOTS = 39


def knots_with(numbers, number):
    return [knot for knot, other in enumerate(numbers, start=1) if other == number]


def line_by_wishes(wishes):
    line = [0]
    for place in range(len(wishes)):
        line.extend(knots_with(wishes, place))
    return line


def line_by_parents(parents):
    line = [0]
    place = 0
    # This ends even where knots go round, as each knot joins behind its one parent alone.
    while place < len(line):
        line.extend(knots_with(parents, line[place]))
        place = place + 1
    return line


def tree_of(wishes):
    check_whole(wishes, MOST_KNOTS)
    line = line_by_wishes(wishes)
    return [line[wish] for wish in wishes]


def row_of(parents):
    if len(parents) < 1 or len(parents) > MOST_KNOTS:
        raise NoTree("a tree has one to 39 knots beside the root")
    line = line_by_parents(parents)
    # A knot whose parent is no knot never joins the line, nor does one that is not led to the root.
    if len(line) != len(parents) + 1:
        raise NoTree("some knot is not led to the root")
    return [line.index(parent) for parent in parents]
