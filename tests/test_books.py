import unittest

from troupe.books import read_book, written_book
from troupe.errors import NoBook

MIXED = [
    "player anna as 120",
    "part king b 3 4",
    "player bert - 0",
    "part maid s 0 2",
    "like bert king 7",
    "scene hall 10 5 maid king",
    "cover maid anna",
    "part fool t 1 0",
    "scene wood 0 0",
    "like anna fool 15",
    "player cara zyx 9",
    "cover fool cara",
    "scene gate 8 1 fool",
    "like anna king 0",
    "cover maid cara",
]

MIXED_BOOK = (
    (("king", "b", 3, 4), ("maid", "s", 0, 2), ("fool", "t", 1, 0)),
    (("anna", "as", 120), ("bert", "", 0), ("cara", "zyx", 9)),
    (("hall", 10, 5, (1, 0)), ("wood", 0, 0, ()), ("gate", 8, 1, (2,))),
    ((1, 0, 7), (0, 2, 15), (0, 0, 0)),
    ((1, 0), (2, 2), (1, 2)),
)

MIXED_WRITTEN = [
    "part king b 3 4",
    "part maid s 0 2",
    "part fool t 1 0",
    "player anna as 120",
    "player bert - 0",
    "player cara zyx 9",
    "scene hall 10 5 maid king",
    "scene wood 0 0",
    "scene gate 8 1 fool",
    "like bert king 7",
    "like anna fool 15",
    "like anna king 0",
    "cover maid anna",
    "cover fool cara",
    "cover maid cara",
]

# Right rows ahead of each wrong one, so that it is wrong by itself alone.
AHEAD = [
    "part king b 3 4",
    "part maid s 0 2",
    "player anna as 120",
    "player bert - 0",
    "scene hall 10 5 maid king",
    "like anna king 5",
    "cover king anna",
]

WRONG_NAMES = ["", "abcdefghi", "King", "kinG", "k1", "k-g", "k_g", "-", "7", "k.", "k'g", "~", "k,g"]
WRONG_AMOUNTS = [
    "", "00", "01", "007", "0000000000", "1000000000", "1234567890", "+1", "-1", "+0", "-0",
    "1.0", "1_0", "1e3", "x", "1x", "x1", "0x1", "-",
]


class BookTest(unittest.TestCase):
    # A repr tells 1 from True and a list from a tuple, which == on numbers does not.
    def same(self, got, wanted):
        self.assertEqual(repr(got), repr(wanted))

    def refused_at(self, rows, at):
        kept = list(rows)
        with self.subTest(rows=rows):
            with self.assertRaises(NoBook) as taken:
                read_book(rows)
            self.same(taken.exception.at, at)
            self.assertEqual(rows, kept)

    def wrong(self, row):
        self.refused_at(AHEAD + [row], len(AHEAD))

    def right(self, row):
        with self.subTest(row=row):
            self.same(written_book(read_book(AHEAD + [row])).count(row), 1)


class TestReading(BookTest):
    def test_no_rows(self):
        self.same(read_book([]), ((), (), (), (), ()))

    def test_one_row_of_each_kind(self):
        self.same(read_book(["part king b 3 4"]), ((("king", "b", 3, 4),), (), (), (), ()))
        self.same(read_book(["player anna sa 12"]), ((), (("anna", "sa", 12),), (), (), ()))
        self.same(read_book(["scene hall 10 5"]), ((), (), (("hall", 10, 5, ()),), (), ()))

    def test_rows_mixed_with_one_another(self):
        self.same(read_book(list(MIXED)), MIXED_BOOK)

    def test_one_name_for_a_part_a_player_and_a_scene(self):
        rows = ["part puck t 1 2", "player puck t 3", "scene puck 4 5 puck", "like puck puck 6", "cover puck puck"]
        book = ((("puck", "t", 1, 2),), (("puck", "t", 3),), (("puck", 4, 5, (0,)),), ((0, 0, 6),), ((0, 0),))
        self.same(read_book(rows), book)
        self.same(written_book(book), rows)

    def test_names_that_are_words_of_rows(self):
        rows = ["part part p 0 0", "player like l 1", "scene scene 2 3 part", "like like part 4", "cover part like"]
        self.same(written_book(read_book(rows)), rows)

    def test_no_voices_and_all_voices(self):
        letters = "zyxwvutsrqponmlkjihgfedcba"
        book = ((), (("anna", "", 1), ("bert", letters, 2), ("cara", "q", 3)), (), (), ())
        rows = ["player anna - 1", f"player bert {letters} 2", "player cara q 3"]
        self.same(read_book(rows), book)
        self.same(written_book(book), rows)

    def test_each_small_letter_is_a_voice_and_a_name(self):
        for letter in "abcdefghijklmnopqrstuvwxyz":
            self.same(read_book([f"part {letter} {letter} 0 0"])[0], ((letter, letter, 0, 0),))

    def test_names_of_one_and_of_eight_letters(self):
        rows = [
            "part a s 0 0", "part abcdefgh s 0 0", "player z s 0", "player stuvwxyz s 0",
            "scene m 0 0 abcdefgh a", "scene mnopqrst 0 0 a",
            "like z abcdefgh 1", "like stuvwxyz a 2", "cover a stuvwxyz", "cover abcdefgh z",
        ]
        book = (
            (("a", "s", 0, 0), ("abcdefgh", "s", 0, 0)),
            (("z", "s", 0), ("stuvwxyz", "s", 0)),
            (("m", 0, 0, (1, 0)), ("mnopqrst", 0, 0, (0,))),
            ((0, 1, 1), (1, 0, 2)),
            ((0, 1), (1, 0)),
        )
        self.same(read_book(rows), book)
        self.same(written_book(book), rows)

    def test_amounts_of_nought_and_of_nine_figures(self):
        rows = [
            "part a s 0 999999999", "part b s 100000000 0", "player c - 0", "player d - 999999999",
            "scene e 0 999999999", "scene f 999999999 0", "like c a 999999999", "like d a 0",
        ]
        book = (
            (("a", "s", 0, 999999999), ("b", "s", 100000000, 0)),
            (("c", "", 0), ("d", "", 999999999)),
            (("e", 0, 999999999, ()), ("f", 999999999, 0, ())),
            ((0, 0, 999999999), (1, 0, 0)),
            (),
        )
        self.same(read_book(rows), book)
        self.same(written_book(book), rows)

    def test_amounts_of_one_to_nine_figures(self):
        for amount in ["1", "9", "10", "102", "1000", "90009", "100000", "1234567", "10000000", "987654321"]:
            number = int(amount)
            self.same(read_book([f"part a b {amount} {amount}"])[0], (("a", "b", number, number),))

    def test_one_player_and_one_part_stand_in_several_likes_and_covers(self):
        ahead = ["part a s 0 0", "part b s 0 0", "player c s 0", "player d s 0"]
        likes = ["like d b 3", "like c b 3", "like d a 3", "like c a 3"]
        covers = ["cover b d", "cover b c", "cover a d", "cover a c"]
        book = read_book(ahead + likes + covers)
        self.same(book[3], ((1, 1, 3), (0, 1, 3), (1, 0, 3), (0, 0, 3)))
        self.same(book[4], ((1, 1), (1, 0), (0, 1), (0, 0)))

    def test_a_part_stands_in_several_scenes_and_keeps_the_told_order(self):
        rows = ["part a s 0 0", "part b s 0 0", "part c s 0 0", "scene x 1 1 c a b", "scene y 1 1 b c"]
        self.same(read_book(rows)[2], (("x", 1, 1, (2, 0, 1)), ("y", 1, 1, (1, 2))))

    def test_a_full_book(self):
        rows = [f"part {letter}{letter} s 1 2" for letter in "abcdefgh"]
        rows.extend([f"player {letter} st 3" for letter in "abcdef"])
        rows.extend([f"scene {letter} 4 5 aa hh cc" for letter in "abcdefghijklmnopqrstuvwx"])
        book = read_book(rows)
        self.same([len(entries) for entries in book], [8, 6, 24, 0, 0])
        self.same(book[2][23], ("x", 4, 5, (0, 7, 2)))
        self.same(written_book(book), rows)


class TestHandedIn(BookTest):
    def test_the_list_of_rows_stays_as_it_was(self):
        rows = list(MIXED)
        read_book(rows)
        self.assertEqual(rows, MIXED)

    def test_a_list_changed_afterwards_changes_no_book(self):
        rows = list(MIXED)
        book = read_book(rows)
        rows.clear()
        self.same(book, MIXED_BOOK)
        self.same(read_book(list(MIXED)), MIXED_BOOK)

    def test_readings_do_not_touch_one_another(self):
        read_book(["part king b 3 4", "player anna s 1", "scene hall 1 2", "cover king anna"])
        self.same(read_book(["part king t 5 6"]), ((("king", "t", 5, 6),), (), (), (), ()))
        self.refused_at(["part king t 5 6", "part king t 5 6"], 1)
        self.same(read_book(["part king t 5 6"]), ((("king", "t", 5, 6),), (), (), (), ()))

    def test_the_written_list_is_the_askers_own(self):
        book = read_book(list(MIXED))
        first = written_book(book)
        second = written_book(book)
        self.assertIsNot(first, second)
        first.clear()
        first.append("else")
        self.same(second, MIXED_WRITTEN)
        self.same(written_book(book), MIXED_WRITTEN)
        self.same(book, MIXED_BOOK)

    def test_the_written_list_is_not_the_one_handed_in(self):
        rows = list(MIXED_WRITTEN)
        given = written_book(read_book(rows))
        self.same(given, rows)
        given.clear()
        self.same(rows, MIXED_WRITTEN)


class TestWriting(BookTest):
    def test_an_empty_book(self):
        self.same(written_book(((), (), (), (), ())), [])

    def test_the_order_of_the_rows(self):
        self.same(written_book(MIXED_BOOK), MIXED_WRITTEN)

    def test_what_is_written_is_read_to_the_book(self):
        for rows in [[], list(MIXED), list(AHEAD), MIXED[:2], MIXED[:7]]:
            with self.subTest(rows=rows):
                book = read_book(rows)
                self.same(read_book(written_book(book)), book)

    def test_likes_and_covers_keep_their_order(self):
        ahead = ["part a s 0 0", "part b s 0 0", "player c s 0", "player d s 0"]
        behind = ["like d b 3", "like c a 9", "like d a 1", "cover b d", "cover a d", "cover a c"]
        self.same(written_book(read_book(ahead + behind)), ahead + behind)


class TestWrongRows(BookTest):
    def test_the_rows_ahead_are_right(self):
        self.same(written_book(read_book(list(AHEAD))), AHEAD)

    def test_no_kind_of_row(self):
        for row in ["", " ", "  ", "-", "0", "king", "parts fool t 1 1", "par fool t 1 1", "role fool t 1 1",
                    "Part fool t 1 1", "PART fool t 1 1", "Player cara s 1", "Scene wood 1 1", "Like anna maid 1",
                    "Cover maid anna", "likes anna maid 1", "covers maid anna", "fool t 1 1", "# part fool t 1 1"]:
            self.wrong(row)

    def test_words_left_out(self):
        for row in ["part fool t 1 2", "player cara st 5", "scene wood 6 7", "like anna maid 8", "cover maid anna"]:
            self.right(row)
            words = row.split(" ")
            for at in range(len(words)):
                self.wrong(" ".join(words[:at] + words[at + 1:]))
                self.wrong(" ".join(words[:at]))

    def test_words_too_many(self):
        for row in ["part fool t 1 2", "player cara st 5", "scene wood 6 7", "like anna maid 8", "cover maid anna"]:
            for word in ["0", "x", "-"]:
                self.wrong(f"{row} {word}")
        for row in ["part fool t 1 2 king", "player cara st 5 king", "like anna maid 8 king", "like anna maid 8 9",
                    "cover maid anna king", "cover maid anna bert", "part fool t 1 2 3", "player cara st 5 6",
                    "scene wood 6 7 8 king"]:
            self.wrong(row)

    def test_blanks_too_many(self):
        for row in ["part fool t 1 2", "player cara st 5", "scene wood 6 7", "scene wood 6 7 king maid",
                    "like anna maid 8", "cover maid anna"]:
            self.right(row)
            words = row.split(" ")
            self.wrong(" " + row)
            self.wrong(row + " ")
            self.wrong(row + "  ")
            for at in range(1, len(words)):
                self.wrong(" ".join(words[:at]) + "  " + " ".join(words[at:]))

    def test_wrong_names(self):
        for name in WRONG_NAMES:
            self.wrong(f"part {name} t 1 2")
            self.wrong(f"player {name} st 5")
            self.wrong(f"scene {name} 6 7")
            self.wrong(f"scene wood 6 7 {name}")
            self.wrong(f"scene wood 6 7 king {name}")
            self.wrong(f"like {name} maid 8")
            self.wrong(f"like anna {name} 8")
            self.wrong(f"cover {name} anna")
            self.wrong(f"cover maid {name}")

    def test_wrong_voices_of_a_part(self):
        for voice in ["", "-", "st", "ss", "T", "1", "~", "abc", "S"]:
            self.wrong(f"part fool {voice} 1 2")

    def test_wrong_voices_of_a_player(self):
        for voices in ["", "--", "-s", "s-", "ss", "sts", "stt", "sst", "S", "sT", "St", "s1", "1", "s,t", "~",
                       "abcdefghijklmnopqrstuvwxyza"]:
            self.wrong(f"player cara {voices} 5")

    def test_wrong_amounts(self):
        for amount in WRONG_AMOUNTS:
            self.wrong(f"part fool t {amount} 2")
            self.wrong(f"part fool t 1 {amount}")
            self.wrong(f"player cara st {amount}")
            self.wrong(f"scene wood {amount} 7")
            self.wrong(f"scene wood 6 {amount}")
            self.wrong(f"scene wood {amount} 7 king")
            self.wrong(f"scene wood 6 {amount} king")
            self.wrong(f"like anna maid {amount}")

    def test_a_name_told_twice_for_its_kind(self):
        self.wrong("part king b 3 4")
        self.wrong("part maid t 9 9")
        self.wrong("player anna as 120")
        self.wrong("player bert t 9")
        self.wrong("scene hall 10 5 maid king")
        self.wrong("scene hall 1 1")

    def test_a_name_told_for_another_kind_is_free(self):
        for row in ["part anna t 1 2", "part hall t 1 2", "player king st 5", "player hall st 5",
                    "scene king 6 7", "scene anna 6 7"]:
            self.right(row)

    def test_a_part_twice_in_a_scene(self):
        self.right("scene wood 6 7 king maid")
        self.wrong("scene wood 6 7 king king")
        self.wrong("scene wood 6 7 king maid king")
        self.wrong("scene wood 6 7 maid king king")

    def test_a_like_told_twice(self):
        self.wrong("like anna king 5")
        self.wrong("like anna king 6")
        self.right("like anna maid 5")
        self.right("like bert king 5")
        rows = AHEAD + ["like bert maid 0", "like anna maid 1"]
        self.refused_at(rows + ["like bert maid 0"], len(rows))
        self.refused_at(rows + ["like bert maid 3"], len(rows))

    def test_a_cover_told_twice(self):
        self.wrong("cover king anna")
        self.right("cover king bert")
        self.right("cover maid anna")
        rows = AHEAD + ["cover maid bert", "cover king bert"]
        self.refused_at(rows + ["cover maid bert"], len(rows))
        self.refused_at(rows + ["cover king anna"], len(rows))

    def test_names_that_are_not_told(self):
        for row in ["scene wood 6 7 fool", "scene wood 6 7 king fool", "scene wood 6 7 anna", "scene wood 6 7 hall",
                    "like cara king 1", "like anna fool 1", "like king anna 1", "like king maid 1", "like anna bert 1",
                    "like hall king 1", "cover fool anna", "cover king cara", "cover anna king", "cover anna bert",
                    "cover king maid", "cover king hall"]:
            self.wrong(row)

    def test_names_that_are_told_only_behind(self):
        self.refused_at(["scene hall 1 1 king", "part king b 1 1"], 0)
        self.refused_at(["part maid s 1 1", "scene hall 1 1 maid king", "part king b 1 1"], 1)
        self.refused_at(["part king b 1 1", "like anna king 1", "player anna b 1"], 1)
        self.refused_at(["player anna b 1", "like anna king 1", "part king b 1 1"], 1)
        self.refused_at(["part king b 1 1", "cover king anna", "player anna b 1"], 1)
        self.refused_at(["player anna b 1", "cover king anna", "part king b 1 1"], 1)

    def test_a_row_in_itself_tells_no_part(self):
        self.refused_at(["scene hall 1 1 hall"], 0)


class TestFirstWrongRow(BookTest):
    def test_the_only_row(self):
        self.refused_at([""], 0)
        self.refused_at(["part king b 3"], 0)

    def test_a_wrong_row_at_each_place(self):
        for at in range(len(MIXED) + 1):
            self.refused_at(MIXED[:at] + ["part king"] + MIXED[at:], at)

    def test_the_first_of_several(self):
        self.refused_at(["part king b 3 4", "player anna s 01", "part king b 3 4", ""], 1)
        self.refused_at(["part king b 3 4", "part king b 3 4", "", "player anna s 01"], 1)
        self.refused_at(["player anna s 1", "part king b 3 4", "cover anna king", "scene hall x 1"], 2)
        self.refused_at(AHEAD + ["like anna king 6", "part maid s 0 2"], len(AHEAD))

    def test_a_later_row_of_another_kind_does_not_come_first(self):
        self.refused_at(["scene hall 1 1", "scene hall 1 1", "part k b 1"], 1)
        self.refused_at(["part a s 1 1", "player b s 1", "cover a b", "cover a b", "part a s 1 1"], 3)


if __name__ == "__main__":
    unittest.main()
