import itertools
import unittest

from troupe.books import read_book
from troupe.castings import faults_of
from troupe.clashes import reason_of

# King and maid meet in the hall; fool and page have no time to change.
PLAY = [
    "part king b 3 4",
    "part maid s 1 2",
    "part fool t 2 1",
    "part page s 9 9",
    "player anna sb 120",
    "player bert - 0",
    "player cara tsb 9",
    "scene hall 10 4 maid king",
    "scene wood 5 3 fool",
    "scene gate 8 1 page",
    "scene moor 8 20 fool",
    "scene lane 2 2 maid",
]


# The faults as the words of the document tell them, each with its place in the told order.
def told_faults(book, casting):
    faults = []
    for i, k in enumerate(casting):
        if k is None:
            faults.append(((0, i, 0), ("nobody", i)))
        elif list(book[1][k][1]).count(book[0][i][1]) == 0:
            faults.append(((0, i, 0), ("voice", i, k)))
        for j, other in enumerate(casting):
            if i < j and k is not None and other is not None and k == other and reason_of(book, i, j) is not None:
                faults.append(((1, i, j), ("clash", i, j)))
    return [fault for place, fault in sorted(faults)]


class CastingTest(unittest.TestCase):
    # A repr tells 1 from True and a list from a tuple, which == on numbers does not.
    def same(self, got, wanted):
        self.assertEqual(repr(got), repr(wanted))

    def faults(self, rows, casting, wanted):
        with self.subTest(rows=rows, casting=casting):
            self.same(faults_of(read_book(rows), casting), wanted)


class TestFaults(CastingTest):
    def test_a_casting_that_plays(self):
        rows = [
            "part king b 3 4", "part maid s 1 2", "part page s 0 0", "player anna sb 1", "player cara s 1",
            "scene hall 1 1 king maid", "scene wood 1 9", "scene gate 1 1 page",
        ]
        self.faults(rows, [0, 1, 0], [])
        self.faults(rows, [0, 1, 1], [])

    def test_one_player_for_parts_that_do_not_clash(self):
        self.faults(["part k b 0 0", "part m b 0 0", "player a b 0", "scene x 1 1 k", "scene y 1 1 m"], [0, 0], [])

    def test_nobody(self):
        rows = ["part k b 0 0", "part m s 0 0", "part f t 0 0", "player a bst 0"]
        self.faults(rows, [None, 0, 0], [("nobody", 0)])
        self.faults(rows, [0, None, 0], [("nobody", 1)])
        self.faults(rows, [None, 0, None], [("nobody", 0), ("nobody", 2)])
        self.faults(rows, [None, None, None], [("nobody", 0), ("nobody", 1), ("nobody", 2)])

    def test_the_first_player_is_somebody(self):
        self.faults(["part k b 0 0", "player a b 0", "player c b 0"], [0], [])
        self.faults(["part k b 0 0", "player a s 0", "player c b 0"], [0], [("voice", 0, 0)])

    def test_a_voice_that_the_player_lacks(self):
        rows = ["part k b 0 0", "part m s 0 0", "player a b 0", "player c s 0", "player d tsb 0"]
        self.faults(rows, [0, 1], [])
        self.faults(rows, [2, 2], [])
        self.faults(rows, [1, 0], [("voice", 0, 1), ("voice", 1, 0)])
        self.faults(rows, [0, 0], [("voice", 1, 0)])
        self.faults(rows, [1, 2], [("voice", 0, 1)])

    def test_each_of_several_voices_counts(self):
        rows = ["part k x 0 0", "part m y 0 0", "part f z 0 0", "part g w 0 0", "player a xyz 0"]
        self.faults(rows, [0, 0, 0, 0], [("voice", 3, 0)])

    def test_a_player_without_voices(self):
        rows = ["part k b 0 0", "part m s 0 0", "player a - 0", "player c bs 0"]
        self.faults(rows, [0, 0], [("voice", 0, 0), ("voice", 1, 0)])
        self.faults(rows, [0, 1], [("voice", 0, 0)])
        self.faults(rows, [None, 0], [("nobody", 0), ("voice", 1, 0)])

    def test_a_clash_in_a_scene(self):
        rows = ["part k b 0 0", "part m b 0 0", "player a b 0", "player c b 0", "scene x 1 1 m k"]
        self.faults(rows, [0, 0], [("clash", 0, 1)])
        self.faults(rows, [1, 1], [("clash", 0, 1)])
        self.faults(rows, [0, 1], [])
        self.faults(rows, [1, 0], [])

    def test_a_clash_by_a_change(self):
        rows = ["part k b 2 2", "part m b 2 2", "player a b 0", "player c b 0"]
        self.faults(rows + ["scene x 1 3 m", "scene y 1 1 k"], [1, 1], [("clash", 0, 1)])
        self.faults(rows + ["scene x 1 4 m", "scene y 1 1 k"], [1, 1], [])

    def test_two_parts_with_nobody_do_not_clash(self):
        rows = ["part k b 0 0", "part m b 0 0", "part f b 0 0", "player a b 0", "scene x 1 1 k m f"]
        self.faults(rows, [None, None, 0], [("nobody", 0), ("nobody", 1)])
        self.faults(rows, [None, None, None], [("nobody", 0), ("nobody", 1), ("nobody", 2)])
        self.faults(rows, [None, 0, 0], [("nobody", 0), ("clash", 1, 2)])

    def test_nobody_and_voice_stand_part_by_part(self):
        rows = [f"part {letter} {letter} 0 0" for letter in "abcdef"] + ["player p bd 0", "player q - 0"]
        wanted = [("voice", 0, 1), ("nobody", 2), ("voice", 3, 1), ("nobody", 4), ("voice", 5, 0)]
        self.faults(rows, [1, 0, None, 1, None, 0], wanted)

    def test_clashes_stand_behind_all_others_by_i_then_by_j(self):
        rows = [f"part {letter} {letter} 0 0" for letter in "abcde"] + ["player p abcd 0", "player q - 0"]
        scenes = ["scene v 1 1 e d", "scene w 1 1 d a", "scene x 1 1 d b a", "scene y 1 1 c b", "scene z 1 1 e a"]
        wanted = [("voice", 4, 0), ("clash", 0, 1), ("clash", 0, 3), ("clash", 0, 4), ("clash", 1, 2),
                  ("clash", 1, 3), ("clash", 3, 4)]
        self.faults(rows + scenes, [0, 0, 0, 0, 0], wanted)
        wanted = [("voice", 0, 1), ("nobody", 2), ("voice", 4, 1), ("clash", 0, 4), ("clash", 1, 3)]
        self.faults(rows + scenes, [1, 0, None, 0, 1], wanted)

    def test_a_voice_and_a_clash_of_one_part(self):
        rows = ["part k b 0 0", "part m s 0 0", "player a - 0", "scene x 1 1 k m"]
        self.faults(rows, [0, 0], [("voice", 0, 0), ("voice", 1, 0), ("clash", 0, 1)])

    def test_several_players_clash_with_themselves(self):
        rows = [f"part {letter} s 0 0" for letter in "abcd"] + ["player p s 0", "player q s 0", "scene x 1 1 d c b a"]
        self.faults(rows, [1, 0, 0, 1], [("clash", 0, 3), ("clash", 1, 2)])
        self.faults(rows, [0, 1, 0, 1], [("clash", 0, 2), ("clash", 1, 3)])

    def test_a_book_without_parts(self):
        self.faults([], [], [])
        self.faults(["player a s 0", "scene x 1 1"], [], [])

    def test_a_book_without_players(self):
        self.faults(["part k b 0 0", "part m s 0 0", "scene x 1 1 k m"], [None, None], [("nobody", 0), ("nobody", 1)])

    def test_a_book_without_scenes(self):
        rows = ["part k b 9 9", "part m s 9 9", "player a bs 0"]
        self.faults(rows, [0, 0], [])
        self.faults(rows, [None, 0], [("nobody", 0)])

    def test_likes_covers_and_hires_have_nothing_to_do_with_it(self):
        rows = ["part k b 0 0", "player a - 9", "like a k 5", "cover k a"]
        self.faults(rows, [0], [("voice", 0, 0)])

    def test_every_casting_of_a_play(self):
        book = read_book(PLAY)
        plays = 0
        for players in itertools.product([None, 0, 1, 2], repeat=4):
            with self.subTest(players=players):
                wanted = told_faults(book, list(players))
                plays += wanted == []
                self.same(faults_of(book, list(players)), wanted)
        self.assertTrue(0 < plays < 256)

    def test_a_full_book(self):
        rows = [f"part {letter} {letter} 1 1" for letter in "abcdefgh"]
        rows.extend([f"player {letter} {letter}h 3" for letter in "abcdef"])
        rows.extend([f"scene {letter} 4 1 {letter} h" for letter in "abcdefg"])
        rows.extend([f"scene {letter} 0 9" for letter in "hijklmnopqrstuvwx"])
        book = read_book(rows)
        self.same(faults_of(book, [0, 1, 2, 3, 4, 5, 0, 0]), told_faults(book, [0, 1, 2, 3, 4, 5, 0, 0]))
        self.same(faults_of(book, [5, 4, 3, 2, 1, 0, None, 1]), told_faults(book, [5, 4, 3, 2, 1, 0, None, 1]))


class TestHandedIn(CastingTest):
    def test_casting_and_book_stay_as_they_were(self):
        book = read_book(PLAY)
        for casting in [[0, 0, 0, 0], [None, 1, 2, 2], [2, 0, 2, 2], [None, None, None, None]]:
            kept = repr((book, casting))
            faults_of(book, casting)
            self.assertEqual(repr((book, casting)), kept)

    def test_the_list_is_the_askers_own(self):
        book = read_book(PLAY)
        casting = [0, 0, None, 1]
        wanted = told_faults(book, casting)
        first = faults_of(book, casting)
        second = faults_of(book, casting)
        self.assertIsNot(first, second)
        first.clear()
        first.append("else")
        self.same(second, wanted)
        self.same(faults_of(book, casting), wanted)

    def test_an_empty_list_is_the_askers_own(self):
        book = read_book([])
        faults_of(book, []).append("else")
        self.same(faults_of(book, []), [])

    def test_a_casting_changed_afterwards_changes_no_faults(self):
        casting = [None, 0, 0, 0]
        faults = faults_of(read_book(PLAY), casting)
        kept = repr(faults)
        casting[0] = 2
        self.assertEqual(repr(faults), kept)


if __name__ == "__main__":
    unittest.main()
