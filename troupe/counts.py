"""Castings that play, counted, and told by their numbers."""

from troupe.books import PARTS, PLAYERS
from troupe.castings import ask_that_it_plays, fault_of_part
from troupe.clashes import clashes_of
from troupe.errors import NoCasting

# Choices are a tuple with, for each part from some one to the last, the tuple of players, rising, who may have it
# by what is given already.


def all_choices(book):
    players = list(range(len(book[PLAYERS])))
    choices = []
    for part in range(len(book[PARTS])):
        choices.append(tuple([player for player in players if fault_of_part(book, part, player) is None]))
    return tuple(choices)


def without(players, player):
    return tuple([other for other in players if other != player])


class Count:
    def __init__(self, book):
        self.parts = len(book[PARTS])
        self.clashes = clashes_of(book)
        # Many ways lead to the same choices: what is counted once is kept.
        self.known = {}

    # The choices behind the first part when this player has it.
    def behind(self, choices, player):
        first = self.parts - len(choices)
        found = []
        for part, players in enumerate(choices[1:], start=first + 1):
            found.append(without(players, player) if (first, part) in self.clashes else players)
        return tuple(found)

    def many(self, choices):
        if choices == ():
            return 1
        if choices not in self.known:
            self.known[choices] = sum([self.many(self.behind(choices, player)) for player in choices[0]])
        return self.known[choices]


def many_castings(book):
    return Count(book).many(all_choices(book))


# The first part's player in the casting of this number among those that the choices leave, and how many of these come
# ahead of all that give it the part.
def player_at(count, choices, number):
    ahead = 0
    for player in choices[0]:
        many = count.many(count.behind(choices, player))
        if number < ahead + many:
            break
        ahead += many
    return (player, ahead)


def casting_at(book, number):
    count = Count(book)
    choices = all_choices(book)
    if not 0 <= number < count.many(choices):
        raise NoCasting("no casting has this number")
    casting = []
    while choices != ():
        player, ahead = player_at(count, choices, number)
        casting.append(player)
        choices = count.behind(choices, player)
        number -= ahead
    return casting


def number_of_casting(book, casting):
    ask_that_it_plays(book, casting)
    count = Count(book)
    choices = all_choices(book)
    number = 0
    for player in casting:
        less = [other for other in choices[0] if other < player]
        number += sum([count.many(count.behind(choices, other)) for other in less])
        choices = count.behind(choices, player)
    return number
