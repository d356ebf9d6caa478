import itertools
import unittest

from troupe.books import read_book
from troupe.clashes import reason_of
from troupe.evenings import evening_of, hurries_of

PLAY = [
    "part king b 3 4",
    "part maid s 1 2",
    "part fool t 2 1",
    "player anna s 1",
    "player bert b 2",
    "player cara t 3",
    "scene hall 10 4 maid king",
    "scene wood 5 3 fool",
    "scene gate 8 1",
    "scene moor 8 20 fool maid king",
    "scene lane 2 2 maid",
]


def told_time(book, s, t):
    return book[2][s][2] + sum([book[2][u][1] + book[2][u][2] for u in range(s + 1, t)])


def told_evening(book, casting, player):
    entrances = []
    for s in range(len(book[2])):
        for at in range(len(book[2][s][3])):
            part = book[2][s][3][at]
            if casting[part] is not None and casting[part] == player:
                entrances.append((s, part))
    return entrances


def told_hurries(book, casting, player):
    evening = told_evening(book, casting, player)
    hurries = []
    for at in range(len(evening) - 1):
        (s, i), (t, j) = evening[at], evening[at + 1]
        if i != j and (s == t or told_time(book, s, t) < book[0][i][2] + book[0][j][3]):
            hurries.append(((s, i), (t, j)))
    return hurries


# Whether two of the player's parts clash, told without the evening.
def parts_clash(book, casting, player):
    parts = [i for i in range(len(casting)) if casting[i] == player]
    return any([reason_of(book, i, j) is not None for i in parts for j in parts if i < j])


# All books of three parts in three scenes with told dresses and times.
def small_books():
    choices = ((), (0,), (1,), (2,), (1, 0), (0, 2), (2, 1), (1, 2, 0))
    for times in (((1, 0), (0, 0)), ((5, 2), (1, 1)), ((0, 3), (2, 0))):
        for dresses in (((0, 0), (0, 0), (0, 0)), ((1, 0), (2, 1), (0, 3)), ((3, 1), (0, 2), (2, 2))):
            parts = tuple([(name, "s", off, on) for name, (off, on) in zip("kmf", dresses)])
            for chosen in itertools.product(choices, repeat=3):
                scenes = (("x",) + times[0] + (chosen[0],), ("y",) + times[1] + (chosen[1],), ("z", 9, 9, chosen[2]))
                yield (parts, (("a", "s", 0), ("b", "s", 0)), scenes, (), ())


class EveningTest(unittest.TestCase):
    # A repr tells 1 from True and a list from a tuple, which == on numbers does not.
    def same(self, got, wanted):
        self.assertEqual(repr(got), repr(wanted))

    # All parts have the one player there is.
    def alone(self, rows, evening, hurries):
        book = read_book(rows + ["player anna s 0"])
        casting = [0] * len(book[0])
        with self.subTest(rows=rows):
            self.same(evening_of(book, casting, 0), evening)
            self.same(hurries_of(book, casting, 0), hurries)


class TestEvenings(EveningTest):
    def test_by_scenes(self):
        book = read_book(PLAY)
        self.same(evening_of(book, [1, 0, 2], 0), [(0, 1), (3, 1), (4, 1)])
        self.same(evening_of(book, [1, 0, 2], 1), [(0, 0), (3, 0)])
        self.same(evening_of(book, [1, 0, 2], 2), [(1, 2), (3, 2)])

    def test_in_a_scene_by_its_own_order(self):
        book = read_book(PLAY)
        self.same(evening_of(book, [0, 0, 0], 0), [(0, 1), (0, 0), (1, 2), (3, 2), (3, 1), (3, 0), (4, 1)])
        self.same(evening_of(book, [1, 0, 1], 1), [(0, 0), (1, 2), (3, 2), (3, 0)])

    def test_a_player_twice_in_one_scene(self):
        rows = ["part k s 0 0", "part m s 0 0", "part f s 0 0", "scene x 9 9 f k m"]
        book = read_book(rows + ["player a s 0", "player b s 0"])
        self.same(evening_of(book, [1, 0, 1], 1), [(0, 2), (0, 0)])
        self.same(hurries_of(book, [1, 0, 1], 1), [((0, 2), (0, 0))])
        self.same(evening_of(book, [1, 0, 1], 0), [(0, 1)])
        self.same(hurries_of(book, [1, 0, 1], 0), [])

    def test_a_player_with_no_part(self):
        book = read_book(PLAY)
        self.same(evening_of(book, [0, 0, 1], 2), [])
        self.same(hurries_of(book, [0, 0, 1], 2), [])
        self.same(evening_of(book, [1, 1, 2], 0), [])

    def test_parts_that_nobody_has_are_no_players(self):
        book = read_book(PLAY)
        self.same(evening_of(book, [None, 0, None], 0), [(0, 1), (3, 1), (4, 1)])
        for player in range(3):
            self.same(evening_of(book, [None, None, None], player), [])
            self.same(hurries_of(book, [None, None, None], player), [])

    def test_a_part_that_is_in_no_scene(self):
        self.alone(["part k s 9 9", "scene x 1 1"], [], [])

    def test_a_book_without_scenes_or_parts(self):
        self.alone([], [], [])
        self.alone(["scene x 1 1", "scene y 1 1"], [], [])
        self.alone(["part k s 9 9", "part m s 9 9"], [], [])

    def test_voices_have_nothing_to_do_with_it(self):
        book = read_book(["part k b 0 0", "player a - 0", "scene x 1 1 k"])
        self.same(evening_of(book, [0], 0), [(0, 0)])


class TestHurries(EveningTest):
    def test_both_entrances_in_one_scene(self):
        self.alone(["part k s 0 0", "part m s 0 0", "scene x 9 9 m k"], [(0, 1), (0, 0)], [((0, 1), (0, 0))])

    def test_three_entrances_in_one_scene(self):
        rows = ["part k s 0 0", "part m s 0 0", "part f s 0 0", "scene w 1 1", "scene x 9 9 m f k"]
        self.alone(rows, [(1, 1), (1, 2), (1, 0)], [((1, 1), (1, 2)), ((1, 2), (1, 0))])

    def test_too_little_time_by_one_minute_and_just_enough(self):
        rows = ["part k s 3 90", "part m s 80 4"]
        evening = [(0, 0), (1, 1)]
        self.alone(rows + ["scene x 50 6 k", "scene y 50 50 m"], evening, [((0, 0), (1, 1))])
        self.alone(rows + ["scene x 50 7 k", "scene y 50 50 m"], evening, [])
        self.alone(rows + ["scene x 50 8 k", "scene y 50 50 m"], evening, [])

    def test_the_change_goes_from_the_first_to_the_second(self):
        rows = ["part k s 3 90", "part m s 80 4"]
        evening = [(0, 1), (1, 0)]
        self.alone(rows + ["scene x 50 169 m", "scene y 50 50 k"], evening, [((0, 1), (1, 0))])
        self.alone(rows + ["scene x 50 170 m", "scene y 50 50 k"], evening, [])

    def test_no_time_for_a_change_that_takes_none(self):
        self.alone(["part k s 0 0", "part m s 0 0", "scene x 0 0 k", "scene y 0 0 m"], [(0, 0), (1, 1)], [])

    def test_scenes_between_give_time(self):
        rows = ["part k s 10 0", "part m s 0 10"]
        evening = [(0, 0), (2, 1)]
        self.alone(rows + ["scene x 9 4 k", "scene y 8 7", "scene z 9 9 m"], evening, [((0, 0), (2, 1))])
        self.alone(rows + ["scene x 9 4 k", "scene y 8 8", "scene z 9 9 m"], evening, [])

    def test_scenes_of_other_players_between_give_time(self):
        rows = ["part k s 5 5", "part m s 5 5", "part f s 5 5", "player a s 0", "player b s 0",
                "scene x 1 1 k", "scene y 7 1 f", "scene z 1 1 m"]
        book = read_book(rows)
        self.same(hurries_of(book, [0, 0, 1], 0), [((0, 0), (2, 1))])
        rows[6] = "scene y 8 1 f"
        self.same(hurries_of(read_book(rows), [0, 0, 1], 0), [])

    def test_the_same_part_twice_in_a_row(self):
        self.alone(["part k s 99 99", "scene x 1 0 k", "scene y 1 0 k"], [(0, 0), (1, 0)], [])
        rows = ["part k s 5 5", "part m s 5 5", "scene x 1 0 k", "scene y 1 3 k", "scene z 1 0 m"]
        self.alone(rows, [(0, 0), (1, 0), (2, 1)], [((1, 0), (2, 1))])

    def test_entrances_that_are_no_neighbours(self):
        # From the first to the third entrance there is too little time, too; only neighbours are told.
        rows = ["part k s 9 9", "part m s 9 9", "part f s 9 9", "scene x 1 1 k", "scene y 1 1 m", "scene z 1 1 f"]
        self.alone(rows, [(0, 0), (1, 1), (2, 2)], [((0, 0), (1, 1)), ((1, 1), (2, 2))])
        rows = ["part k s 9 9", "part m s 9 9", "scene x 1 1 k", "scene y 1 1 k", "scene z 1 1 m"]
        self.alone(rows, [(0, 0), (1, 0), (2, 1)], [((1, 0), (2, 1))])
        rows = ["part k s 0 0", "part m s 0 0", "part f s 0 0", "scene x 1 1 k m f"]
        self.alone(rows, [(0, 0), (0, 1), (0, 2)], [((0, 0), (0, 1)), ((0, 1), (0, 2))])

    def test_hurries_stand_in_the_evenings_order(self):
        rows = [
            "part k s 2 2", "part m s 1 0", "part f s 0 9",
            "scene v 1 1 f", "scene w 1 1 m k", "scene x 1 1 m", "scene y 1 50 f", "scene z 1 1 k",
        ]
        evening = [(0, 2), (1, 1), (1, 0), (2, 1), (3, 2), (4, 0)]
        self.alone(rows, evening, [((1, 1), (1, 0)), ((1, 0), (2, 1)), ((2, 1), (3, 2))])

    def test_only_the_players_own_hurries(self):
        rows = ["part k s 9 9", "part m s 9 9", "part f s 0 0", "part g s 0 0", "player a s 0", "player b s 0",
                "scene x 1 1 k f", "scene y 1 1 m g"]
        book = read_book(rows)
        self.same(hurries_of(book, [0, 0, 1, 1], 0), [((0, 0), (1, 1))])
        self.same(hurries_of(book, [0, 0, 1, 1], 1), [])
        self.same(hurries_of(book, [1, 1, 0, 0], 1), [((0, 0), (1, 1))])

    def test_a_full_book(self):
        rows = [f"part {letter} s {at} {7 - at}" for at, letter in enumerate("abcdefgh")]
        rows.extend([f"player {letter} s 0" for letter in "abcdef"])
        names = "abcdefghijklmnopqrstuvwx"
        rows.extend([f"scene {name} {at % 3} {at % 4} {'abcdefgh'[at * 5 % 8]}" for at, name in enumerate(names)])
        book = read_book(rows)
        for casting in [[0, 1, 2, 3, 4, 5, 0, 1], [5, 5, 5, 5, 5, 5, 5, 5], [None, 3, None, 3, 2, 2, 2, None]]:
            for player in range(6):
                self.same(evening_of(book, casting, player), told_evening(book, casting, player))
                self.same(hurries_of(book, casting, player), told_hurries(book, casting, player))

    def test_a_player_has_a_hurry_just_where_two_of_its_parts_clash(self):
        found = {True: 0, False: 0}
        for book in small_books():
            for casting in ([0, 0, 0], [0, 0, 1], [0, 1, 0], [1, 0, 0], [0, None, 0]):
                hurries = hurries_of(book, casting, 0)
                clash = parts_clash(book, casting, 0)
                found[clash] += 1
                if (hurries != []) is not clash or repr(hurries) != repr(told_hurries(book, casting, 0)):
                    self.fail(f"{book} {casting} {hurries}")
        self.assertTrue(min(found.values()) > 1000)


class TestHandedIn(EveningTest):
    def test_casting_and_book_stay_as_they_were(self):
        book = read_book(PLAY)
        casting = [0, None, 0]
        kept = repr((book, casting))
        evening_of(book, casting, 0)
        hurries_of(book, casting, 0)
        self.assertEqual(repr((book, casting)), kept)

    def test_the_lists_are_the_askers_own(self):
        book = read_book(PLAY)
        for asked in (evening_of, hurries_of):
            first = asked(book, [0, 0, 0], 0)
            second = asked(book, [0, 0, 0], 0)
            kept = repr(second)
            self.assertNotEqual(second, [])
            self.assertIsNot(first, second)
            first.clear()
            first.append("else")
            self.assertEqual(repr(second), kept)
            self.assertEqual(repr(asked(book, [0, 0, 0], 0)), kept)

    def test_empty_lists_are_the_askers_own(self):
        book = read_book(PLAY)
        for asked in (evening_of, hurries_of):
            asked(book, [0, 0, 0], 1).append("else")
            self.same(asked(book, [0, 0, 0], 1), [])


if __name__ == "__main__":
    unittest.main()
