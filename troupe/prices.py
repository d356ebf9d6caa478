"""Prices: what it costs to hire players and to give them parts."""

from troupe.books import LIKES, PARTS, PLAYERS


def like_of(book, player, part):
    for like in book[LIKES]:
        if like[:2] == (player, part):
            return like[2]
    return 0


def likes_of(book, player):
    return tuple([like_of(book, player, part) for part in range(len(book[PARTS]))])


def prices_of(book):
    hires = tuple([player[2] for player in book[PLAYERS]])
    likes = tuple([likes_of(book, player) for player in range(len(book[PLAYERS]))])
    return (hires, likes)


def likes_of_change(casting, player):
    return tuple([0 if other == player else 1 for other in casting])


def prices_of_change(book, casting):
    players = list(range(len(book[PLAYERS])))
    return (tuple([0 for player in players]), tuple([likes_of_change(casting, player) for player in players]))


def price_of(prices, casting):
    hires, likes = prices
    hired = sum([hires[player] for player in sorted(set(casting))])
    return hired + sum([likes[player][part] for part, player in enumerate(casting)])
