import itertools
import random
import unittest

from troupe.books import read_book
from troupe.castings import faults_of
from troupe.clashes import clashes_of
from troupe.least import least_of
from troupe.prices import price_of, prices_of, prices_of_change

LETTERS = "abcdefgh"


def all_pairs(many):
    return [(i, j) for i in range(many) for j in range(i + 1, many)]


# A book with just these clashes: dresses take no time, and each pair meets in a scene of its own.
def book_of(voices, players, clashes):
    rows = [f"part {letter} {voice} 0 0" for letter, voice in zip(LETTERS, voices)]
    rows.extend([f"player {letter} {own or '-'} {hire}" for letter, (own, hire) in zip(LETTERS, players)])
    rows.extend([f"scene {LETTERS[i]}{LETTERS[j]} 1 1 {LETTERS[i]} {LETTERS[j]}" for i, j in clashes])
    return read_book(rows)


# A drawn book whose parts may clash in a scene, or by a change.
def drawn_book(spread, parts, players):
    rows = [f"part {letter} {spread.choice('sst')} {spread.randrange(3)} {spread.randrange(3)}"
            for letter in LETTERS[:parts]]
    rows.extend([f"player {letter} {spread.choice(['-', 's', 't', 'st', 'st', 'tus'])} {spread.randrange(10)}"
                 for letter in LETTERS[:players]])
    for letter in LETTERS[:spread.randrange(5)]:
        names = spread.sample(LETTERS[:parts], spread.randrange(min(parts, 2) + 1))
        rows.append(" ".join(["scene", letter, str(spread.randrange(3)), str(spread.randrange(5))] + names))
    for one, other in itertools.product(LETTERS[:players], LETTERS[:parts]):
        if spread.randrange(2):
            rows.append(f"like {one} {other} {spread.randrange(10)}")
    return read_book(rows)


def drawn_prices(spread, book, most):
    hires = tuple([spread.randrange(most) for player in book[1]])
    return (hires, tuple([tuple([spread.randrange(most) for part in book[0]]) for player in book[1]]))


def drawn_casting(spread, book):
    return [spread.choice([None] + list(range(len(book[1])))) for part in book[0]]


def playing(book):
    castings = itertools.product(range(len(book[1])), repeat=len(book[0]))
    return [list(casting) for casting in castings if faults_of(book, list(casting)) == []]


class LeastTest(unittest.TestCase):
    # A repr tells 1 from True and a list from a tuple, which == on numbers does not.
    def same(self, got, wanted):
        self.assertEqual(repr(got), repr(wanted))

    # The least told is one of the castings that play, at the least price of them.
    def least(self, book, prices, castings):
        told = least_of(book, prices)
        if castings == []:
            self.assertIsNone(told, (book, prices))
            return
        self.assertEqual([told.__class__, len(told)], [tuple, 2])
        price, casting = told
        self.assertIs(casting.__class__, list)
        self.assertIn(repr(casting), [repr(other) for other in castings], (book, prices))
        self.same(price, price_of(prices, casting))
        self.same(price, min([price_of(prices, other) for other in castings]))


class TestTold(LeastTest):
    def test_the_cheaper_player(self):
        book = book_of("ss", [("s", 5), ("s", 4)], [])
        self.same(least_of(book, prices_of(book)), (4, [1, 1]))
        book = book_of("ss", [("s", 4), ("s", 5)], [])
        self.same(least_of(book, prices_of(book)), (4, [0, 0]))

    def test_one_hire_for_two_parts(self):
        # Part by part the second player is cheaper for the second part, but a hire comes with it.
        book = book_of("ss", [("s", 6), ("s", 3)], [])
        self.same(least_of(book, ((6, 3), ((0, 2), (9, 0)))), (8, [0, 0]))
        self.same(least_of(book, ((6, 3), ((0, 4), (9, 0)))), (9, [0, 1]))

    def test_the_cheapest_way_for_the_first_player_is_not_the_least(self):
        book = book_of("st", [("st", 0), ("s", 0)], [(0, 1)])
        self.same(least_of(book, ((0, 0), ((0, 7), (5, 0)))), (12, [1, 0]))

    def test_a_clash_asks_for_two_players(self):
        self.same(least_of(book_of("ss", [("s", 5), ("s", 4)], [(0, 1)]), ((5, 4), ((0, 1), (0, 3)))), (10, [1, 0]))

    def test_a_clash_by_a_change_asks_for_two_players(self):
        rows = ["part k b 2 2", "part m b 2 2", "player a b 5", "player c b 9", "like a k 1"]
        book = read_book(rows + ["scene x 1 3 m", "scene y 1 1 k"])
        self.same(least_of(book, prices_of(book)), (14, [1, 0]))
        book = read_book(rows + ["scene x 1 4 m", "scene y 1 1 k"])
        self.same(least_of(book, prices_of(book)), (6, [0, 0]))

    def test_a_voice_that_only_the_dearer_has(self):
        book = book_of("st", [("s", 1), ("st", 50)], [])
        self.same(least_of(book, prices_of(book)), (50, [1, 1]))
        self.same(least_of(book, ((1, 50), ((0, 0), (2, 0)))), (51, [0, 1]))

    def test_a_player_without_a_part_is_not_hired(self):
        book = book_of("s", [("s", 9), ("s", 3), ("-", 9), ("s", 8)], [])
        self.same(least_of(book, prices_of(book)), (3, [1]))

    def test_prices_are_those_that_are_told_not_the_books(self):
        book = book_of("s", [("s", 9), ("s", 3)], [])
        self.same(least_of(book, ((3, 9), ((0,), (0,)))), (3, [0]))
        self.same(least_of(book, ((0, 0), ((4,), (0,)))), (0, [1]))

    def test_nothing_is_changed_where_the_casting_plays(self):
        book = book_of("sts", [("s", 9), ("st", 3), ("st", 1)], [(0, 1), (0, 2)])
        self.same(least_of(book, prices_of_change(book, [0, 1, 2])), (0, [0, 1, 2]))
        self.same(least_of(book, prices_of_change(book, [2, 1, 1])), (0, [2, 1, 1]))

    def test_one_change(self):
        book = book_of("sts", [("s", 9), ("st", 3)], [(0, 1), (0, 2)])
        self.same(least_of(book, prices_of_change(book, [0, 1, 0])), (1, [0, 1, 1]))
        self.same(least_of(book, prices_of_change(book, [None, 1, 1])), (1, [0, 1, 1]))
        self.same(least_of(book, prices_of_change(book, [None, None, None])), (3, [0, 1, 1]))

    def test_great_prices(self):
        great = 99999999999999999999
        book = book_of("ss", [("s", 0), ("s", 0)], [(0, 1)])
        prices = ((great, great), ((great, great - 1), (great - 1, great)))
        self.same(least_of(book, prices), (4 * great - 2, [1, 0]))

    def test_a_book_without_parts(self):
        self.same(least_of(read_book([]), ((), ())), (0, []))
        book = read_book(["player a s 4", "player c - 7", "scene x 1 1"])
        self.same(least_of(book, prices_of(book)), (0, []))
        self.same(least_of(book, prices_of_change(book, [])), (0, []))

    def test_a_book_without_players(self):
        for rows in [["part k b 0 0"], ["part k b 0 0", "part m s 0 0", "scene x 1 1 k m"]]:
            book = read_book(rows)
            self.assertIsNone(least_of(book, prices_of(book)))
            self.assertIsNone(least_of(book, prices_of_change(book, [None] * len(book[0]))))

    def test_a_voice_that_nobody_has(self):
        for players in [[("t", 0)], [("", 0)], [("t", 0), ("uv", 0)], [("", 0), ("", 0)]]:
            book = book_of("ts", players, [])
            self.assertIsNone(least_of(book, prices_of(book)))
            self.assertIsNone(least_of(book, prices_of_change(book, [0, 0])))

    def test_more_parts_that_clash_than_players(self):
        book = book_of("sss", [("s", 0), ("s", 0)], all_pairs(3))
        self.assertIsNone(least_of(book, prices_of(book)))
        book = book_of("sss", [("s", 0), ("s", 0), ("t", 0)], all_pairs(3))
        self.assertIsNone(least_of(book, prices_of(book)))
        book = book_of("sss", [("s", 0), ("s", 0), ("s", 0)], all_pairs(3))
        self.assertEqual(least_of(book, prices_of(book))[0], 0)

    def test_a_full_book(self):
        book = book_of("ssssssss", [("s", 10)] * 6, all_pairs(6))
        likes = tuple([tuple([0 if part in (player, player + 5) else 9 for part in range(8)]) for player in range(6)])
        self.same(least_of(book, ((10,) * 6, likes)), (60, [0, 1, 2, 3, 4, 5, 1, 2]))
        book = book_of("ssssssss", [("s", 9 - at) for at in range(6)], [])
        self.same(least_of(book, prices_of(book)), (4, [5] * 8))


class TestAgainstAllCastings(LeastTest):
    def test_every_set_of_clashes_of_up_to_four_parts(self):
        spread = random.Random(16)
        none = 0
        for parts, players in itertools.product(range(5), range(4)):
            for mask in range(1 << len(all_pairs(parts))):
                clashes = [pair for at, pair in enumerate(all_pairs(parts)) if mask >> at & 1]
                hires = [(spread.choice(["s", "t", "st", "ts"]), spread.randrange(9)) for player in range(players)]
                book = book_of([spread.choice("st") for part in range(parts)], hires, clashes)
                self.assertEqual(clashes_of(book), clashes)
                castings = playing(book)
                none += castings == []
                self.least(book, prices_of(book), castings)
                self.least(book, prices_of_change(book, drawn_casting(spread, book)), castings)
                self.least(book, drawn_prices(spread, book, 9), castings)
                self.least(book, drawn_prices(spread, book, 2), castings)
        self.assertTrue(50 < none < 250, none)

    def test_drawn_books_of_up_to_four_parts_and_three_players(self):
        spread = random.Random(17)
        none = 0
        for at in range(600):
            book = drawn_book(spread, spread.randrange(5), spread.randrange(4))
            castings = playing(book)
            none += castings == []
            self.least(book, prices_of(book), castings)
            for kept in [drawn_casting(spread, book)] + castings[:2]:
                self.least(book, prices_of_change(book, kept), castings)
            self.least(book, drawn_prices(spread, book, 30), castings)
        self.assertTrue(100 < none < 500, none)

    def test_all_castings_of_a_greater_book(self):
        spread = random.Random(18)
        for at in range(6):
            book = drawn_book(spread, 6, 4)
            castings = playing(book)
            self.least(book, prices_of(book), castings)
            self.least(book, drawn_prices(spread, book, 12), castings)


class TestHandedIn(LeastTest):
    def test_book_and_prices_stay_as_they_were(self):
        spread = random.Random(19)
        for at in range(40):
            book = drawn_book(spread, 4, 3)
            prices = drawn_prices(spread, book, 9)
            kept = repr((book, prices))
            least_of(book, prices)
            self.assertEqual(repr((book, prices)), kept)

    def test_the_casting_is_the_askers_own(self):
        for book in [book_of("", [], []), book_of("", [("s", 1)], []), book_of("ss", [("s", 5), ("s", 4)], []),
                     book_of("ss", [("s", 5), ("s", 4)], [(0, 1)])]:
            prices = prices_of(book)
            first = least_of(book, prices)
            second = least_of(book, prices)
            kept = repr(first)
            first[1].clear()
            first[1].append("else")
            self.assertEqual(repr(second), kept)
            self.assertEqual(repr(least_of(book, prices)), kept)


if __name__ == "__main__":
    unittest.main()
