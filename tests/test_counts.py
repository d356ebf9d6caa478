import itertools
import random
import unittest

from troupe.books import read_book
from troupe.castings import faults_of
from troupe.counts import casting_at, many_castings, number_of_casting
from troupe.errors import NoCasting

LETTERS = "abcdefgh"


def all_pairs(many):
    return [(i, j) for i in range(many) for j in range(i + 1, many)]


# A book with just these clashes: dresses take no time, and each pair meets in a scene of its own.
def book_of(voices, players, clashes):
    rows = [f"part {letter} {voice} 0 0" for letter, voice in zip(LETTERS, voices)]
    rows.extend([f"player {letter} {own} 1" for letter, own in zip(LETTERS, players)])
    rows.extend([f"scene {LETTERS[i]}{LETTERS[j]} 1 1 {LETTERS[i]} {LETTERS[j]}" for i, j in clashes])
    return read_book(rows)


# A drawn book whose parts may clash in a scene, or by a change.
def drawn_book(spread, parts, players):
    rows = [f"part {letter} {spread.choice('sst')} {spread.randrange(3)} {spread.randrange(3)}"
            for letter in LETTERS[:parts]]
    rows.extend([f"player {letter} {spread.choice(['-', 's', 't', 'st', 'st', 'tus'])} {spread.randrange(10)}"
                 for letter in LETTERS[:players]])
    for letter in LETTERS[:spread.randrange(5)]:
        names = spread.sample(LETTERS[:parts], spread.randrange(min(parts, 2) + 1))
        rows.append(" ".join(["scene", letter, str(spread.randrange(3)), str(spread.randrange(5))] + names))
    return read_book(rows)


# All that play, in their order: a product tells the tuples of its first place first.
def playing(book):
    castings = itertools.product(range(len(book[1])), repeat=len(book[0]))
    return [list(casting) for casting in castings if faults_of(book, list(casting)) == []]


def others(book):
    castings = itertools.product([None] + list(range(len(book[1]))), repeat=len(book[0]))
    return [list(casting) for casting in castings if faults_of(book, list(casting)) != []]


class CountsTest(unittest.TestCase):
    # A repr tells 1 from True and a list from a tuple, which == on numbers does not.
    def same(self, got, wanted):
        self.assertEqual(repr(got), repr(wanted))

    def no_casting_at(self, book, number):
        with self.assertRaises(NoCasting, msg=(book, number)):
            casting_at(book, number)

    def no_number(self, book, casting):
        with self.assertRaises(NoCasting, msg=(book, casting)):
            number_of_casting(book, casting)

    def counted(self, book):
        castings = playing(book)
        self.same(many_castings(book), len(castings))
        for number, casting in enumerate(castings):
            told = casting_at(book, number)
            self.same(told, casting)
            self.same(number_of_casting(book, told), number)
        for number in [len(castings), len(castings) + 1, -1, -len(castings), -len(castings) - 1, 10 ** 19, -10 ** 19]:
            if not 0 <= number < len(castings):
                self.no_casting_at(book, number)
        return len(castings)


class TestTold(CountsTest):
    def test_two_parts_and_two_players(self):
        book = book_of("ss", ["s", "s"], [])
        self.same([casting_at(book, number) for number in range(4)], [[0, 0], [0, 1], [1, 0], [1, 1]])
        self.same(many_castings(book), 4)
        book = book_of("ss", ["s", "s"], [(0, 1)])
        self.same([casting_at(book, number) for number in range(2)], [[0, 1], [1, 0]])
        self.same(many_castings(book), 2)

    def test_voices_bound_the_choice(self):
        book = book_of("st", ["t", "ts", "s"], [])
        self.same(many_castings(book), 4)
        self.same([casting_at(book, number) for number in range(4)], [[1, 0], [1, 1], [2, 0], [2, 1]])
        self.same([number_of_casting(book, casting) for casting in [[2, 0], [1, 0], [2, 1], [1, 1]]], [2, 0, 3, 1])

    def test_a_clash_by_a_change(self):
        rows = ["part k b 2 2", "part m b 2 2", "player a b 5", "player c b 9"]
        self.same(many_castings(read_book(rows + ["scene x 1 3 m", "scene y 1 1 k"])), 2)
        self.same(many_castings(read_book(rows + ["scene x 1 4 m", "scene y 1 1 k"])), 4)

    def test_a_book_without_parts(self):
        for rows in [[], ["player a s 4"], ["player a - 4", "scene x 1 1"], ["scene x 1 1"]]:
            book = read_book(rows)
            self.same(many_castings(book), 1)
            self.same(casting_at(book, 0), [])
            self.same(number_of_casting(book, []), 0)
            for number in [-1, 1, 2, -2, 10 ** 19]:
                self.no_casting_at(book, number)

    def test_a_book_without_players(self):
        for voices, clashes in [("s", []), ("st", []), ("st", [(0, 1)])]:
            book = book_of(voices, [], clashes)
            self.same(many_castings(book), 0)
            for number in [0, -1, 1]:
                self.no_casting_at(book, number)
            self.no_number(book, [None] * len(voices))

    def test_a_voice_that_nobody_has(self):
        for voices in ["u", "us", "su", "sus", "ssu"]:
            book = book_of(voices, ["s", "st", "-"], [])
            self.same(many_castings(book), 0)
            for number in [0, -1, 1]:
                self.no_casting_at(book, number)
            self.no_number(book, [0] * len(voices))

    def test_more_that_clash_than_players(self):
        book = book_of("sss", ["s", "s"], all_pairs(3))
        self.same(many_castings(book), 0)
        self.no_casting_at(book, 0)
        self.no_number(book, [0, 1, 0])

    def test_castings_that_do_not_play_have_no_number(self):
        book = book_of("sst", ["s", "st"], [(0, 2)])
        self.same([number_of_casting(book, casting) for casting in [[0, 0, 1], [0, 1, 1]]], [0, 1])
        for casting in [[None, 0, 1], [0, None, 1], [0, 0, None], [None] * 3, [0, 0, 0], [1, 0, 1], [0, 1, 0]]:
            self.no_number(book, casting)


class TestAgainstAllCastings(CountsTest):
    def test_every_set_of_clashes_of_up_to_four_parts(self):
        spread = random.Random(23)
        counts = []
        for parts, players in itertools.product(range(5), range(4)):
            for mask in range(1 << len(all_pairs(parts))):
                clashes = [pair for at, pair in enumerate(all_pairs(parts)) if mask >> at & 1]
                voices = [spread.choice(["s", "t", "st", "ts"]) for player in range(players)]
                counts.append(self.counted(book_of([spread.choice("st") for part in range(parts)], voices, clashes)))
                counts.append(self.counted(book_of("s" * parts, ["s"] * players, clashes)))
        self.assertTrue(0 in counts and 1 in counts and max(counts) == 81)

    def test_drawn_books_of_up_to_four_parts_and_three_players(self):
        spread = random.Random(24)
        counts = []
        for at in range(400):
            book = drawn_book(spread, spread.randrange(5), spread.randrange(4))
            counts.append(self.counted(book))
            for casting in others(book)[::7]:
                self.no_number(book, casting)
        self.assertTrue(counts.count(0) > 50 and len(set(counts)) > 10)

    def test_greater_books(self):
        spread = random.Random(25)
        self.assertTrue(max([self.counted(drawn_book(spread, 6, 4)) for at in range(8)]) > 100)


class TestFullBooks(CountsTest):
    def test_without_clashes(self):
        book = book_of("s" * 8, ["s"] * 6, [])
        self.same(many_castings(book), 6 ** 8)
        for number in [0, 1, 5, 6, 36, 123456, 6 ** 7, 6 ** 8 - 1]:
            figures = [number // 6 ** place % 6 for place in reversed(range(8))]
            self.same(casting_at(book, number), figures)
            self.same(number_of_casting(book, figures), number)
        for number in [6 ** 8, -1]:
            self.no_casting_at(book, number)

    def test_six_parts_that_all_clash(self):
        book = book_of("s" * 6, ["s"] * 6, all_pairs(6))
        orders = [list(order) for order in itertools.permutations(range(6))]
        self.same(many_castings(book), 720)
        self.same([casting_at(book, number) for number in range(720)], orders)
        self.same([number_of_casting(book, order) for order in orders[::17]], list(range(720))[::17])

    def test_a_ring_and_a_row_of_eight(self):
        ring = [(at, at + 1) for at in range(7)]
        book = book_of("s" * 8, ["s"] * 6, ring)
        self.same(many_castings(book), 6 * 5 ** 7)
        self.same(casting_at(book, 0), [0, 1] * 4)
        self.same(casting_at(book, 6 * 5 ** 7 - 1), [5, 4] * 4)
        book = book_of("s" * 8, ["s"] * 6, ring + [(0, 7)])
        self.same(many_castings(book), 5 ** 8 + 5)
        for number in [0, 1, 99999, 200000, 5 ** 8 + 4]:
            casting = casting_at(book, number)
            self.assertEqual(faults_of(book, casting), [])
            self.same(number_of_casting(book, casting), number)
        self.no_casting_at(book, 5 ** 8 + 5)

    def test_neighbours_of_great_numbers_rise(self):
        spread = random.Random(26)
        clashes = spread.sample(all_pairs(8), 11)
        book = book_of("s" * 8, ["s", "s", "s", "s", "ts", "s"], clashes)
        count = many_castings(book)
        self.assertTrue(count > 10000)
        for number in [spread.randrange(count - 1) for at in range(20)]:
            one = casting_at(book, number)
            other = casting_at(book, number + 1)
            self.assertTrue(one < other)
            between = next(casting for casting in after(book, one) if faults_of(book, casting) == [])
            self.same(other, between)


# The lists of players behind one, in their order.
def after(book, casting):
    many = len(book[1])
    number = sum([player * many ** place for place, player in enumerate(reversed(casting))])
    while True:
        number += 1
        yield [number // many ** place % many for place in reversed(range(len(casting)))]


class TestHandedIn(CountsTest):
    def test_nothing_is_changed(self):
        spread = random.Random(27)
        for at in range(40):
            book = drawn_book(spread, 3, 3)
            for number, casting in enumerate(playing(book)):
                kept = repr((book, casting))
                many_castings(book)
                casting_at(book, number)
                number_of_casting(book, casting)
                self.assertEqual(repr((book, casting)), kept)

    def test_castings_are_the_askers_own(self):
        for book in [book_of("", [], []), book_of("ss", ["s", "s"], []), book_of("ss", ["s", "s"], [(0, 1)])]:
            for number in range(many_castings(book)):
                casting = casting_at(book, number)
                kept = repr(casting)
                casting.clear()
                casting.append("else")
                self.assertEqual(repr(casting_at(book, number)), kept)


if __name__ == "__main__":
    unittest.main()
