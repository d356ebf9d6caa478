import unittest

from troupe.books import read_book
from troupe.clashes import clashes_of, reason_of, time_between

# Lengths and pauses that are unlike powers of two, so that each sum tells which minutes stand in it.
TIMES = [
    "scene a 1 2",
    "scene b 4 8",
    "scene c 16 32",
    "scene d 64 128",
    "scene e 256 512",
]


# All reasons that the words of the document tell, each with its place in the told order.
def told_reasons(book, i, j):
    scenes = book[2]
    reasons = []
    for s in range(len(scenes)):
        if i in scenes[s][3] and j in scenes[s][3]:
            reasons.append(((s, 0, 0), ("scene", s)))
        for one, other in [(i, j), (j, i)]:
            for t in range(s + 1, len(scenes)):
                have = scenes[s][2]
                for between in range(s + 1, t):
                    have += scenes[between][1]
                    have += scenes[between][2]
                need = book[0][one][2] + book[0][other][3]
                if one in scenes[s][3] and other in scenes[t][3] and have < need:
                    reasons.append(((s, 1, t), ("change", s, t, have, need)))
    return sorted(reasons)


def first_told(book, i, j):
    reasons = told_reasons(book, i, j)
    return reasons[0][1] if reasons else None


# Every book of two parts in three scenes, with the told times of dress.
def small_books(dresses):
    books = []
    choices = ((), (0,), (1,), (0, 1))
    for first in choices:
        for second in choices:
            for third in choices:
                scenes = (("x", 9, 2, first), ("y", 1, 1, second), ("z", 9, 9, third))
                books.append((dresses, (), scenes, (), ()))
    return books


class ClashTest(unittest.TestCase):
    # A repr tells 1 from True and a list from a tuple, which == on numbers does not.
    def same(self, got, wanted):
        self.assertEqual(repr(got), repr(wanted))

    def reason(self, rows, wanted):
        book = read_book(rows)
        with self.subTest(rows=rows):
            self.same(reason_of(book, 0, 1), wanted)
            self.same(reason_of(book, 1, 0), wanted)
            self.same(clashes_of(book), [] if wanted is None else [(0, 1)])


class TestTimeBetween(ClashTest):
    def test_neighbours_have_the_pause_of_the_first(self):
        book = read_book(TIMES)
        self.same([time_between(book, s, s + 1) for s in range(4)], [2, 8, 32, 128])

    def test_scenes_further_apart(self):
        book = read_book(TIMES)
        self.same(time_between(book, 0, 2), 2 + 4 + 8)
        self.same(time_between(book, 0, 3), 2 + 4 + 8 + 16 + 32)
        self.same(time_between(book, 0, 4), 2 + 4 + 8 + 16 + 32 + 64 + 128)
        self.same(time_between(book, 1, 3), 8 + 16 + 32)
        self.same(time_between(book, 1, 4), 8 + 16 + 32 + 64 + 128)
        self.same(time_between(book, 2, 4), 32 + 64 + 128)

    def test_no_time(self):
        book = read_book(["scene a 5 0", "scene b 0 0", "scene c 5 5"])
        self.same(time_between(book, 0, 1), 0)
        self.same(time_between(book, 0, 2), 0)
        self.same(time_between(book, 1, 2), 0)

    def test_much_time(self):
        rows = [f"scene {letter} 999999999 999999999" for letter in "abcdefghijklmnopqrstuvwx"]
        self.same(time_between(read_book(rows), 0, 23), 999999999 * 45)

    def test_parts_have_nothing_to_do_with_it(self):
        book = read_book(["part k b 7 9", "scene a 1 2 k", "scene b 4 8 k", "scene c 1 1"])
        self.same(time_between(book, 0, 2), 14)


class TestReasons(ClashTest):
    def test_no_scene(self):
        self.reason(["part k b 9 9", "part m s 9 9"], None)

    def test_parts_that_are_in_no_scene(self):
        self.reason(["part k b 9 9", "part m s 9 9", "scene a 0 0", "scene b 0 0"], None)
        self.reason(["part k b 9 9", "part m s 9 9", "scene a 0 0 k", "scene b 0 0 k"], None)
        self.reason(["part k b 9 9", "part m s 9 9", "scene a 0 0", "scene b 0 0 m"], None)

    def test_a_scene_with_both(self):
        self.reason(["part k b 0 0", "part m s 0 0", "scene a 9 9 k m"], ("scene", 0))
        self.reason(["part k b 0 0", "part m s 0 0", "scene a 9 9 m k"], ("scene", 0))
        self.reason(["part k b 0 0", "part m s 0 0", "scene a 9 9", "scene b 9 9 k m", "scene c 9 9 m k"], ("scene", 1))

    def test_a_scene_with_a_third_part_between(self):
        book = read_book(["part k b 0 0", "part m s 0 0", "part f t 0 0", "scene a 9 9 k f m"])
        self.same([reason_of(book, 0, 1), reason_of(book, 2, 0), reason_of(book, 1, 2)], [("scene", 0)] * 3)

    def test_a_change_from_the_one_to_the_other(self):
        rows = ["part k b 1 20", "part m s 300 4000"]
        self.reason(rows + ["scene a 5 7 k", "scene b 5 5 m"], ("change", 0, 1, 7, 4001))
        self.reason(rows + ["scene a 5 7 m", "scene b 5 5 k"], ("change", 0, 1, 7, 320))

    def test_only_the_off_of_the_first_and_the_on_of_the_second_count(self):
        rows = ["part k b 0 900", "part m s 900 0"]
        self.reason(rows + ["scene a 5 0 k", "scene b 5 5 m"], None)
        self.reason(rows + ["scene a 5 0 m", "scene b 5 5 k"], ("change", 0, 1, 0, 1800))

    def test_as_much_time_as_the_change_takes_is_no_clash(self):
        rows = ["part k b 3 0", "part m s 0 4"]
        self.reason(rows + ["scene a 5 6 k", "scene b 5 5 m"], ("change", 0, 1, 6, 7))
        self.reason(rows + ["scene a 5 7 k", "scene b 5 5 m"], None)
        self.reason(rows + ["scene a 5 8 k", "scene b 5 5 m"], None)
        self.reason(["part k b 0 0", "part m s 0 0", "scene a 0 0 k", "scene b 0 0 m"], None)

    def test_a_change_over_scenes_between(self):
        rows = ["part k b 10 0", "part m s 0 10"]
        self.reason(rows + ["scene a 9 4 k", "scene b 8 7", "scene c 9 9 m"], ("change", 0, 2, 19, 20))
        self.reason(rows + ["scene a 9 4 k", "scene b 8 8", "scene c 9 9 m"], None)
        self.reason(rows + ["scene a 9 4 k", "scene b 9 7", "scene c 9 9 m"], None)
        self.reason(rows + ["scene a 9 5 k", "scene b 8 7", "scene c 9 9 m"], None)

    def test_a_change_from_the_first_scene_to_the_last(self):
        between = [f"scene {letter} 2 3" for letter in "bcdefghijklmnopqrstuvw"]
        have = 1 + 22 * 5
        scenes = ["scene a 9 1 k"] + between + ["scene x 9 9 m"]
        self.reason(["part k b 100 0", "part m s 0 12"] + scenes, ("change", 0, 23, have, have + 1))
        self.reason(["part k b 100 0", "part m s 0 11"] + scenes, None)

    def test_the_lengths_of_both_scenes_and_the_last_pause_do_not_count(self):
        rows = ["part k b 1 0", "part m s 0 0", "scene a 99 0 k", "scene b 99 99 m"]
        self.reason(rows, ("change", 0, 1, 0, 1))

    def test_one_change_in_time_and_a_later_one_not(self):
        rows = ["part k b 2 9", "part m s 9 2"]
        scenes = ["scene a 5 4 k", "scene b 5 18 m", "scene c 5 3 k", "scene d 5 5 m"]
        self.reason(rows + scenes, ("change", 2, 3, 3, 4))

    def test_the_first_by_s(self):
        rows = ["part k b 1 1", "part m s 1 1"]
        self.reason(rows + ["scene a 5 0 k", "scene b 5 0 m", "scene c 5 0 k"], ("change", 0, 1, 0, 2))
        self.reason(rows + ["scene a 5 0 k", "scene b 5 0 m k", "scene c 5 0 k"], ("change", 0, 1, 0, 2))
        self.reason(rows + ["scene a 5 9 k", "scene b 5 0 m k", "scene c 5 0 k"], ("scene", 1))
        self.reason(rows + ["scene a 5 9 m", "scene b 5 0 k", "scene c 5 0 m k"], ("change", 1, 2, 0, 2))

    def test_a_change_from_an_earlier_scene_is_told_ahead_of_a_scene_with_both(self):
        rows = ["part k b 50 50", "part m s 50 50"]
        self.reason(rows + ["scene a 1 1 k", "scene b 1 1", "scene c 1 1 k m"], ("change", 0, 2, 3, 100))

    def test_for_one_s_the_scene_is_told_ahead_of_changes(self):
        rows = ["part k b 9 9", "part m s 9 9"]
        self.reason(rows + ["scene a 5 0 k m", "scene b 5 0 m"], ("scene", 0))
        self.reason(rows + ["scene a 5 0 m k", "scene b 5 0 k", "scene c 5 0 m"], ("scene", 0))

    def test_for_one_s_the_first_by_t(self):
        rows = ["part k b 50 50", "part m s 50 50"]
        self.reason(rows + ["scene a 1 1 k", "scene b 1 1", "scene c 1 1 m", "scene d 1 1 m"], ("change", 0, 2, 3, 100))
        self.reason(rows + ["scene a 1 1 m", "scene b 1 1 m", "scene c 1 1 k", "scene d 1 1 k"],
                    ("change", 0, 2, 3, 100))

    def test_an_earlier_s_with_a_later_t_is_told_first(self):
        rows = ["part k b 50 50", "part m s 50 50"]
        self.reason(rows + ["scene a 1 1 k", "scene b 1 1 k", "scene c 1 1 m"], ("change", 0, 2, 3, 100))

    def test_a_change_asks_nothing_where_the_part_stays(self):
        self.reason(["part k b 99 99", "part m s 0 0", "scene a 1 0 k", "scene b 1 0 k"], None)

    def test_a_change_may_lead_over_a_scene_of_another_part(self):
        rows = ["part k b 5 5", "part m s 5 5", "part f t 0 0", "scene a 1 1 k", "scene b 1 1 f", "scene c 1 1 m"]
        book = read_book(rows)
        self.same(reason_of(book, 0, 1), ("change", 0, 2, 3, 10))
        self.same(reason_of(book, 0, 2), ("change", 0, 1, 1, 5))
        self.same(reason_of(book, 2, 1), ("change", 1, 2, 1, 5))

    def test_every_small_book(self):
        for off in (0, 1, 2, 3, 5):
            for on in (0, 1, 3):
                for book in small_books((("k", "b", off, on), ("m", "s", 1, 2))):
                    with self.subTest(book=book):
                        wanted = first_told(book, 0, 1)
                        self.same(reason_of(book, 0, 1), wanted)
                        self.same(reason_of(book, 1, 0), wanted)


class TestClashes(ClashTest):
    def test_a_book_without_parts(self):
        self.same(clashes_of(read_book([])), [])
        self.same(clashes_of(read_book(["scene a 0 0", "scene b 0 0"])), [])

    def test_a_book_without_scenes(self):
        self.same(clashes_of(read_book(["part k b 9 9", "part m s 9 9", "part f t 9 9"])), [])

    def test_one_part(self):
        self.same(clashes_of(read_book(["part k b 9 9", "scene a 0 0 k", "scene b 0 0 k"])), [])

    def test_the_pairs_stand_by_i_then_by_j(self):
        rows = [f"part {letter} s 0 0" for letter in "abcde"]
        scenes = ["scene v 1 1 e d", "scene w 1 1 d a", "scene x 1 1 c b", "scene y 1 1 b a", "scene z 1 1 e a"]
        self.same(clashes_of(read_book(rows + scenes)), [(0, 1), (0, 3), (0, 4), (1, 2), (3, 4)])

    def test_all_pairs(self):
        rows = [f"part {letter} s 0 0" for letter in "abcdefgh"] + ["scene z 1 1 h g f e d c b a"]
        pairs = [(i, j) for i in range(8) for j in range(i + 1, 8)]
        self.same(clashes_of(read_book(rows)), pairs)

    def test_pairs_by_scenes_and_by_changes(self):
        rows = [
            "part k b 3 4", "part m s 1 2", "part f t 0 0", "part g t 6 1",
            "scene a 10 4 k", "scene b 5 2 m f", "scene c 8 1 g", "scene d 3 3 k",
        ]
        book = read_book(rows)
        self.same(clashes_of(book), [(0, 1), (0, 3), (1, 2)])
        self.same(reason_of(book, 0, 1), ("change", 0, 1, 4, 5))
        self.same(reason_of(book, 0, 3), ("change", 2, 3, 1, 10))
        self.same(reason_of(book, 1, 2), ("scene", 1))
        self.same(reason_of(book, 1, 3), None)

    def test_players_likes_and_covers_have_nothing_to_do_with_it(self):
        rows = ["part k b 0 0", "part m s 0 0", "player a b 1", "player b s 1", "like a k 1", "cover m b"]
        self.same(clashes_of(read_book(rows)), [])
        self.same(clashes_of(read_book(rows + ["scene a 1 1 k m"])), [(0, 1)])

    def test_the_pairs_are_those_with_a_reason(self):
        book = full_book()
        pairs = [(i, j) for i in range(8) for j in range(i + 1, 8) if first_told(book, i, j) is not None]
        self.assertTrue(0 < len(pairs) < 28)
        self.same(clashes_of(book), pairs)
        for i in range(8):
            for j in range(8):
                if i != j:
                    self.same(reason_of(book, i, j), first_told(book, i, j))

    def test_the_list_is_the_askers_own(self):
        book = read_book(["part k b 0 0", "part m s 0 0", "scene a 1 1 k m"])
        first = clashes_of(book)
        second = clashes_of(book)
        self.assertIsNot(first, second)
        first.clear()
        first.append("else")
        self.same(second, [(0, 1)])
        self.same(clashes_of(book), [(0, 1)])

    def test_an_empty_list_is_the_askers_own(self):
        book = read_book([])
        clashes_of(book).append((0, 1))
        self.same(clashes_of(book), [])

    def test_the_book_stays_as_it_was(self):
        book = full_book()
        kept = repr(book)
        clashes_of(book)
        reason_of(book, 3, 1)
        time_between(book, 0, 5)
        self.assertEqual(repr(book), kept)


# Eight parts in twenty-four scenes, spread so that some pairs clash in either way and some do not.
def full_book():
    parts = tuple([(letter, "s", at % 3, (5 * at) % 4) for at, letter in enumerate("abcdefgh")])
    scenes = []
    for at, letter in enumerate("abcdefghijklmnopqrstuvwx"):
        numbers = ((at * 3) % 8,) if at % 6 else ((at // 6) * 2, (at // 6) * 2 + 1)
        scenes.append((letter, at % 2, at % 4, numbers))
    return (parts, (), tuple(scenes), (), ())


if __name__ == "__main__":
    unittest.main()
