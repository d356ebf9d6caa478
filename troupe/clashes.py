"""Clashes: which two parts can't be one player's, and why."""

from troupe.books import PARTS, SCENES


def time_between(book, s, t):
    scenes = book[SCENES]
    return scenes[s][2] + sum([scene[1] + scene[2] for scene in scenes[s + 1:t]])


def change_time(book, one, other):
    return book[PARTS][one][2] + book[PARTS][other][3]


def short_change_from(book, s, one, other):
    need = change_time(book, one, other)
    for t in range(s + 1, len(book[SCENES])):
        if other in book[SCENES][t][3]:
            have = time_between(book, s, t)
            if have < need:
                return ("change", s, t, have, need)
    return None


def reason_from(book, s, i, j):
    numbers = book[SCENES][s][3]
    if i in numbers and j in numbers:
        return ("scene", s)
    if i in numbers:
        return short_change_from(book, s, i, j)
    if j in numbers:
        return short_change_from(book, s, j, i)
    return None


def reason_of(book, i, j):
    for s in range(len(book[SCENES])):
        reason = reason_from(book, s, i, j)
        if reason is not None:
            return reason
    return None


def clashes_of(book):
    pairs = []
    many = len(book[PARTS])
    for i in range(many):
        pairs.extend([(i, j) for j in range(i + 1, many) if reason_of(book, i, j) is not None])
    return pairs
