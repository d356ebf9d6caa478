import itertools
import random
import unittest

from troupe.books import read_book
from troupe.prices import price_of, prices_of, prices_of_change

PLAY = [
    "part king b 3 4",
    "part maid s 1 2",
    "part fool t 2 1",
    "player anna sb 120",
    "player bert - 0",
    "player cara tsb 9",
    "player dora t 999999999",
    "scene hall 10 4 maid king",
    "scene wood 5 3 fool",
    "like cara fool 8",
    "like anna maid 7",
    "like bert king 999999999",
    "like anna king 0",
    "like cara king 5",
    "cover maid anna",
    "cover fool bert",
]


# The price by the words of the document: somebody who has a part is hired once, and each part has its like.
def told_price(prices, casting):
    price = 0
    for player in range(len(prices[0])):
        parts = [part for part, other in enumerate(casting) if other == player]
        if parts:
            price += prices[0][player]
        for part in parts:
            price += prices[1][player][part]
    return price


class PriceTest(unittest.TestCase):
    # A repr tells 1 from True and a list from a tuple, which == on numbers does not.
    def same(self, got, wanted):
        self.assertEqual(repr(got), repr(wanted))

    def own(self, rows, wanted):
        with self.subTest(rows=rows):
            self.same(prices_of(read_book(rows)), wanted)

    def change(self, rows, casting, wanted):
        with self.subTest(rows=rows, casting=casting):
            self.same(prices_of_change(read_book(rows), casting), wanted)

    def price(self, prices, casting, wanted):
        with self.subTest(prices=prices, casting=casting):
            self.same(price_of(prices, casting), wanted)


class TestOwnPrices(PriceTest):
    def test_hires_by_players_and_likes_by_players_and_parts(self):
        likes = ((0, 7, 0), (999999999, 0, 0), (5, 0, 8), (0, 0, 0))
        self.own(PLAY, ((120, 0, 9, 999999999), likes))

    def test_none_told(self):
        self.own(["part k b 0 0", "part m s 0 0", "player a b 0", "player c b 4"], ((0, 4), ((0, 0), (0, 0))))

    def test_a_like_of_one_player_is_none_of_another(self):
        rows = ["part k b 0 0", "part m b 0 0", "player a b 1", "player c b 2", "like c k 3"]
        self.own(rows, ((1, 2), ((0, 0), (3, 0))))
        self.own(rows[:4] + ["like a m 3"], ((1, 2), ((0, 3), (0, 0))))

    def test_likes_in_any_order(self):
        rows = ["part k b 0 0", "part m b 0 0", "player a b 1", "player c b 2"]
        likes = ["like a k 3", "like a m 4", "like c k 5", "like c m 6"]
        for order in itertools.permutations(likes):
            self.own(rows + list(order), ((1, 2), ((3, 4), (5, 6))))

    def test_parts_and_players_told_in_turns(self):
        rows = ["player a b 1", "part k b 0 0", "like a k 3", "player c b 2", "like c k 5", "part m b 0 0"]
        self.own(rows, ((1, 2), ((3, 0), (5, 0))))

    def test_voices_clashes_covers_and_minutes_have_nothing_to_do_with_it(self):
        rows = ["part k b 8 8", "part m b 8 8", "player a - 1", "scene x 7 7 k m", "like a k 3", "cover m a"]
        self.own(rows, ((1,), ((3, 0),)))

    def test_a_book_without_parts(self):
        self.own(["player a b 1", "player c - 0", "scene x 1 1"], ((1, 0), ((), ())))

    def test_a_book_without_players(self):
        self.own(["part k b 1 1", "scene x 1 1 k"], ((), ()))

    def test_an_empty_book(self):
        self.own([], ((), ()))

    def test_a_full_book(self):
        rows = [f"part {letter} s 0 0" for letter in "abcdefgh"]
        rows.extend([f"player {letter} s {at}" for at, letter in enumerate("abcdef")])
        rows.extend([f"like {one} {other} {10 * at + number}" for at, one in enumerate("abcdef")
                     for number, other in enumerate("abcdefgh")])
        likes = tuple([tuple(range(10 * at, 10 * at + 8)) for at in range(6)])
        self.own(rows, ((0, 1, 2, 3, 4, 5), likes))


class TestPricesOfChange(PriceTest):
    def test_nought_just_where_the_casting_gives_the_part_to_the_player(self):
        self.change(PLAY, [0, 2, 2], ((0, 0, 0, 0), ((0, 1, 1), (1, 1, 1), (1, 0, 0), (1, 1, 1))))
        self.change(PLAY, [3, 0, 1], ((0, 0, 0, 0), ((1, 0, 1), (1, 1, 0), (1, 1, 1), (0, 1, 1))))

    def test_one_player_for_all(self):
        self.change(PLAY, [0, 0, 0], ((0, 0, 0, 0), ((0, 0, 0), (1, 1, 1), (1, 1, 1), (1, 1, 1))))

    def test_nobody(self):
        self.change(PLAY, [None, 1, None], ((0, 0, 0, 0), ((1, 1, 1), (1, 0, 1), (1, 1, 1), (1, 1, 1))))
        self.change(PLAY, [None, None, None], ((0, 0, 0, 0), ((1, 1, 1), (1, 1, 1), (1, 1, 1), (1, 1, 1))))
        self.change(PLAY, [0, None, None], ((0, 0, 0, 0), ((0, 1, 1), (1, 1, 1), (1, 1, 1), (1, 1, 1))))

    def test_a_book_without_parts(self):
        self.change(["player a b 1", "player c - 5"], [], ((0, 0), ((), ())))

    def test_a_book_without_players(self):
        self.change(["part k b 1 1", "part m b 1 1"], [None, None], ((), ()))

    def test_an_empty_book(self):
        self.change([], [], ((), ()))

    def test_every_casting(self):
        book = read_book(PLAY)
        for casting in itertools.product([None, 0, 1, 2, 3], repeat=3):
            likes = [[1, 1, 1] for player in range(4)]
            for part, player in enumerate(casting):
                if player is not None:
                    likes[player][part] = 0
            wanted = ((0, 0, 0, 0), tuple([tuple(row) for row in likes]))
            self.same(prices_of_change(book, list(casting)), wanted)


class TestPriceOfACasting(PriceTest):
    def test_a_hire_once_for_a_player_with_several_parts(self):
        prices = ((100, 10), ((0, 0, 0), (0, 0, 0)))
        self.price(prices, [0, 0, 0], 100)
        self.price(prices, [1, 1, 1], 10)
        self.price(prices, [0, 1, 0], 110)
        self.price(prices, [1, 0, 1], 110)

    def test_no_hire_for_a_player_without_a_part(self):
        self.price(((100, 10, 1), ((0,), (0,), (0,))), [1], 10)
        self.price(((100, 10, 1), ((0, 0), (0, 0), (0, 0))), [2, 0], 101)

    def test_likes_of_each_part(self):
        prices = ((0, 0), ((1, 10, 100), (1000, 10000, 100000)))
        self.price(prices, [0, 0, 0], 111)
        self.price(prices, [1, 1, 1], 111000)
        self.price(prices, [0, 1, 0], 10101)
        self.price(prices, [1, 0, 1], 101010)

    def test_players_of_the_same_hire_are_hired_each(self):
        self.price(((7, 7, 7), ((0, 0), (0, 0), (0, 0))), [0, 2], 14)

    def test_the_empty_casting(self):
        self.price(((), ()), [], 0)
        self.price(((5, 6), ((), ())), [], 0)

    def test_great_prices(self):
        great = 99999999999999999999
        self.price(((great, great), ((great, great), (great, great))), [0, 1], 4 * great)
        self.price(((great, 0), ((great, great), (0, 1))), [0, 0], 3 * great)

    def test_by_a_books_own_prices(self):
        prices = prices_of(read_book(PLAY))
        self.price(prices, [2, 0, 2], 9 + 120 + 5 + 7 + 8)
        self.price(prices, [1, 1, 1], 999999999)
        self.price(prices, [0, 1, 3], 120 + 999999999)

    def test_by_the_prices_of_changes(self):
        book = read_book(PLAY)
        for kept in itertools.product([None, 0, 1, 2, 3], repeat=3):
            prices = prices_of_change(book, list(kept))
            for casting in itertools.product(range(4), repeat=3):
                differ = len([part for part in range(3) if casting[part] != kept[part]])
                self.same(price_of(prices, list(casting)), differ)

    def test_drawn_prices(self):
        spread = random.Random(15)
        for at in range(300):
            parts = spread.randrange(9)
            players = spread.randrange(1, 7)
            hires = tuple([spread.randrange(50) for player in range(players)])
            likes = tuple([tuple([spread.randrange(50) for part in range(parts)]) for player in range(players)])
            casting = [spread.randrange(players) for part in range(parts)]
            self.price((hires, likes), casting, told_price((hires, likes), casting))


class TestHandedIn(PriceTest):
    def test_book_prices_and_casting_stay_as_they_were(self):
        book = read_book(PLAY)
        prices = prices_of(book)
        for casting in [[2, 0, 2], [0, 0, 0], [3, 2, 1]]:
            kept = repr((book, prices, casting))
            prices_of(book)
            prices_of_change(book, casting)
            price_of(prices, casting)
            self.assertEqual(repr((book, prices, casting)), kept)
        casting = [None, 2, None]
        prices_of_change(book, casting)
        self.same(casting, [None, 2, None])

    def test_a_casting_changed_afterwards_changes_no_prices(self):
        casting = [2, 0, None]
        prices = prices_of_change(read_book(PLAY), casting)
        kept = repr(prices)
        casting[0] = 1
        casting[2] = 0
        self.assertEqual(repr(prices), kept)


if __name__ == "__main__":
    unittest.main()
