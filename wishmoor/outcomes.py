"""Outcomes: the places that boats took, and the rows of wishes that lead there."""

from wishmoor.errors import NoOutcome
from wishmoor.quays import LONGEST_QUAY


def check_outcome(places):
    boats = len(places)
    if boats < 1 or boats > LONGEST_QUAY:
        raise NoOutcome("an outcome is of one to 40 boats")
    if sorted(places) != list(range(boats)):
        raise NoOutcome("each place of the quay is taken once")


def least_wish(taken, place):
    wish = place
    while wish > 0 and taken[wish - 1]:
        wish = wish - 1
    return wish


def spans(places):
    check_outcome(places)
    taken = [False] * len(places)
    told = []
    for place in places:
        told.append((least_wish(taken, place), place))
        taken[place] = True
    return told


def ways(places):
    rows = 1
    # Boats choose within their spans without regard to one another, so the choices multiply.
    for least, place in spans(places):
        rows = rows * (place - least + 1)
    return rows
