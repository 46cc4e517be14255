"""Mooring along a quay: the place that each boat takes, and the crowd of a row."""

from wishmoor.errors import NoQuay, NoRow

LONGEST_QUAY = 40


def check_wishes(wishes, places):
    for wish in wishes:
        if wish < 0 or wish >= places:
            raise NoRow("a wish is no place here")


def check_row(long, wishes):
    if long < 1 or long > LONGEST_QUAY:
        raise NoQuay("a quay is long 1 to 40")
    if len(wishes) > long:
        raise NoRow("there are more boats than places")
    check_wishes(wishes, long)


def first_free(taken, wish):
    for place in range(wish, len(taken)):
        if not taken[place]:
            return place
    return None


def moored(long, wishes):
    check_row(long, wishes)
    taken = [False] * long
    places = []
    for wish in wishes:
        place = first_free(taken, wish)
        if place is not None:
            taken[place] = True
        places.append(place)
    return places


def crowd(long, wishes):
    check_row(long, wishes)
    # The greatest crowded place is asked for, so the walk begins at the quay's end.
    for place in range(long - 1, -1, -1):
        boats = len([wish for wish in wishes if wish >= place])
        if boats > long - place:
            return place
    return None


def check_whole(wishes, most):
    boats = len(wishes)
    if boats < 1 or boats > most:
        raise NoRow("there is no boat, or there are too many")
    if crowd(boats, wishes) is not None:
        raise NoRow("the row does not moor whole")
