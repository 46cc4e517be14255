"""Ranks: the rows that moor whole on a quay with as many places as boats, put in order."""

from wishmoor.errors import NoRank, NoRow
from wishmoor.quays import check_whole

MOST_BOATS = 7


def many(boats):
    if boats < 1 or boats > MOST_BOATS:
        raise NoRow("rows of one to 7 boats are ranked")
    rows = 1
    for factor in range(boats - 1):
        rows = rows * (boats + 1)
    return rows


def choices(boats, some):
    told = 1
    for step in range(some):
        # Nothing is left over: what is told at each step is itself a number of choices.
        told = told * (boats - step) // (step + 1)
    return told


def joined(counts, some):
    behind = len(counts) - 1
    # Few of them wish for lesser places already; the others are chosen of the boats that don't.
    return sum([counts[few] * choices(behind - few, some - few) for few in range(some + 1)])


def endings(boats, begun):
    # Walking through all rows would take long, so it is only counted how many of them
    # moor whole and begin like this: at each number stands in how many ways so many
    # of the boats behind may wish for the places up to the one that is looked at.
    behind = boats - len(begun)
    counts = [1] + [0] * behind
    for place in range(boats):
        settled = len([wish for wish in begun if wish <= place])
        # A place stays free where fewer boats wish for the places up to it than there are of these.
        lacking = place + 1 - settled
        counts = [joined(counts, some) if some >= lacking else 0 for some in range(behind + 1)]
    return counts[behind]


def row_at(boats, rank):
    # The boats are looked at first, for NoRow goes ahead of NoRank.
    rows = many(boats)
    if rank < 0 or rank >= rows:
        raise NoRank("there is no row of this rank")
    row = []
    ahead = rank
    for boat in range(boats):
        wish = 0
        passed = endings(boats, row + [wish])
        while passed <= ahead:
            ahead = ahead - passed
            wish = wish + 1
            passed = endings(boats, row + [wish])
        row.append(wish)
    return row


def rank_of(wishes):
    check_whole(wishes, MOST_BOATS)
    rank = 0
    for boat, wish in enumerate(wishes):
        for lesser in range(wish):
            rank = rank + endings(len(wishes), wishes[:boat] + [lesser])
    return rank
