"""Evenings: a player's way from entrance to entrance, and where it is too short."""

from troupe.books import SCENES
from troupe.clashes import change_time, time_between


def evening_of(book, casting, player):
    evening = []
    for s, scene in enumerate(book[SCENES]):
        evening.extend([(s, part) for part in scene[3] if casting[part] == player])
    return evening


def is_hurry(book, one, other):
    if one[1] == other[1]:
        return False
    return one[0] == other[0] or time_between(book, one[0], other[0]) < change_time(book, one[1], other[1])


def hurries_of(book, casting, player):
    evening = evening_of(book, casting, player)
    return [(one, other) for one, other in zip(evening, evening[1:]) if is_hurry(book, one, other)]
