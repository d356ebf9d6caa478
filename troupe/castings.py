"""Castings: who has which part, and what is wrong with that."""

from troupe.books import PARTS, PLAYERS
from troupe.clashes import clashes_of
from troupe.errors import NoCasting


def fault_of_part(book, i, player):
    if player is None:
        return ("nobody", i)
    if book[PARTS][i][1] not in book[PLAYERS][player][1]:
        return ("voice", i, player)
    return None


def have_one_player(casting, i, j):
    return casting[i] is not None and casting[i] == casting[j]


def faults_of(book, casting):
    faults = [fault_of_part(book, i, player) for i, player in enumerate(casting)]
    faults = [fault for fault in faults if fault is not None]
    faults.extend([("clash", i, j) for i, j in clashes_of(book) if have_one_player(casting, i, j)])
    return faults


def ask_that_it_plays(book, casting):
    if faults_of(book, casting) != []:
        raise NoCasting("the casting does not play")
