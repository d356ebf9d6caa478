"""Papers that show, without searching, that no casting costs less than a price, or that none plays."""

from troupe.books import PARTS, PLAYERS, are_unlike
from troupe.clashes import clashes_of
from troupe.least import all_ways, left_behind, price_of_taking, takings_of


def layer_of(ways):
    return [(left, ways[left][0]) for left in ways]


def paper_of(book, prices):
    return [layer_of(ways) for ways in all_ways(book, prices)]


def has_its_layers(book, paper):
    if len(paper) != len(book[PLAYERS]) + 1:
        return False
    return paper[0] == [(tuple(range(len(book[PARTS]))), 0)]


def has_each_left_once(layer):
    return are_unlike([left for left, price in layer])


def holds_behind(book, clashes, prices, player, entry, following):
    left, price = entry
    for taken in takings_of(book, clashes, player, left):
        behind = left_behind(left, taken)
        if behind not in following or following[behind] > price + price_of_taking(prices, player, taken):
            return False
    return True


def holds_step_by_step(book, prices, paper):
    clashes = clashes_of(book)
    for player in range(len(book[PLAYERS])):
        following = dict(paper[player + 1])
        if not all([holds_behind(book, clashes, prices, player, entry, following) for entry in paper[player]]):
            return False
    return True


def ends_with(layer, price):
    ends = [cost for left, cost in layer if left == ()]
    if price is None:
        return ends == []
    return all([cost >= price for cost in ends])


def holds(book, prices, paper, price):
    if not has_its_layers(book, paper) or not all([has_each_left_once(layer) for layer in paper]):
        return False
    return ends_with(paper[-1], price) and holds_step_by_step(book, prices, paper)
