"""The least casting, found player by player: to each tuple of parts left a cheapest way is kept."""

from troupe.books import PARTS, PLAYERS
from troupe.castings import fault_of_part
from troupe.clashes import clashes_of


def may_join(clashes, taken, part):
    return all([(other, part) not in clashes for other in taken])


# All that a player may take of the parts left, rising like these; to take none is one of them.
def takings_of(book, clashes, player, left):
    takings = [()]
    for part in left:
        if fault_of_part(book, part, player) is None:
            takings = takings + [taken + (part,) for taken in takings if may_join(clashes, taken, part)]
    return takings


def price_of_taking(prices, player, taken):
    hires, likes = prices
    # Who takes no part is not hired.
    if taken == ():
        return 0
    return hires[player] + sum([likes[player][part] for part in taken])


def left_behind(left, taken):
    return tuple([part for part in left if part not in taken])


def with_parts(casting, taken, player):
    return [player if part in taken else other for part, other in enumerate(casting)]


# Ways are a dict with, for each tuple of parts left that can be come to, the least price of that and a casting so far.


def first_ways(book):
    many = len(book[PARTS])
    return {tuple(range(many)): (0, [None] * many)}


def next_ways(book, clashes, prices, player, ways):
    found = {}
    for left in ways:
        price, casting = ways[left]
        for taken in takings_of(book, clashes, player, left):
            behind = left_behind(left, taken)
            cost = price + price_of_taking(prices, player, taken)
            if behind not in found or cost < found[behind][0]:
                found[behind] = (cost, with_parts(casting, taken, player))
    return found


# The ways ahead of the first player, and those behind each one.
def all_ways(book, prices):
    clashes = clashes_of(book)
    layers = [first_ways(book)]
    for player in range(len(book[PLAYERS])):
        layers.append(next_ways(book, clashes, prices, player, layers[-1]))
    return layers


def least_of(book, prices):
    return all_ways(book, prices)[-1].get(())
