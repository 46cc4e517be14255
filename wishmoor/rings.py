"""Mooring round a ring, which has one place more than there are boats."""

from wishmoor.errors import NoRow
from wishmoor.quays import check_wishes

MOST_BOATS = 39


def check_ring(wishes):
    boats = len(wishes)
    if boats < 1 or boats > MOST_BOATS:
        raise NoRow("one to 39 boats come to a ring")
    check_wishes(wishes, boats + 1)


def first_free_round(taken, wish):
    place = wish
    # This ends, as a ring has more places than boats.
    while taken[place]:
        place = (place + 1) % len(taken)
    return place


def ring_moored(wishes):
    check_ring(wishes)
    taken = [False] * (len(wishes) + 1)
    places = []
    for wish in wishes:
        place = first_free_round(taken, wish)
        taken[place] = True
        places.append(place)
    return places


def left_free(wishes):
    places = ring_moored(wishes)
    free = [place for place in range(len(places) + 1) if place not in places]
    return free[0]


def turned(wishes, by):
    check_ring(wishes)
    ring = len(wishes) + 1
    return [(wish + by) % ring for wish in wishes]


def luck(wishes):
    # A row moors whole on the quay just where the ring's last place stays free,
    # and the free place is turned along with the row.
    return len(wishes) - left_free(wishes)
