"""Notes: a quay's length and a row of wishes, written as a text and read again."""

from wishmoor.errors import NoNote
from wishmoor.quays import check_row

FIGURES = "0123456789"
MOST_FIGURES = 2


def shown(long, wishes):
    check_row(long, wishes)
    return f"{long}:" + "".join([f" {wish}" for wish in wishes])


def number_of(word):
    if len(word) < 1 or len(word) > MOST_FIGURES:
        raise NoNote("a number has one or two figures")
    if not all([sign in FIGURES for sign in word]):
        raise NoNote("a number is written by figures")
    if len(word) > 1 and word[0] == "0":
        raise NoNote("a number begins with no nought")
    return int(word)


def read(text):
    parts = text.split(":")
    if len(parts) != 2:
        raise NoNote("one colon stands behind the length")
    # A blank goes ahead of each wish, so nothing stands ahead of the first one.
    words = parts[1].split(" ")
    if words[0] != "":
        raise NoNote("a blank goes ahead of each wish")
    # All numbers are read before any is weighed, for NoNote goes ahead of NoQuay and NoRow.
    long = number_of(parts[0])
    wishes = [number_of(word) for word in words[1:]]
    check_row(long, wishes)
    return (long, wishes)
