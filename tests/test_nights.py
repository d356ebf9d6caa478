import copy
import itertools
import random
import unittest

from troupe.books import read_book
from troupe.castings import faults_of
from troupe.errors import NoCasting
from troupe.nights import night_of, nights_of, scene_of_night

LETTERS = "abcdefgh"
NAMES = "stuvwx"


# Parts a, b, .. of one voice and without dresses; players s, t, .. who all have it.
def book_of(parts, players, scenes, covers):
    rows = [f"part {letter} m 0 0" for letter in LETTERS[:parts]]
    rows.extend([f"player {letter} m 1" for letter in NAMES[:players]])
    rows.extend([" ".join(["scene", LETTERS[at], "1", "1"] + list(names)) for at, names in enumerate(scenes)])
    rows.extend([f"cover {part} {player}" for part, player in covers])
    return read_book(rows)


# A second reading of the document: who may cover a part of a scene.
def told_covers(book, casting, away, scene, part):
    inside = {casting[other] for other in book[2][scene][3]}
    return [k for k in range(len(book[1])) if (part, k) in book[4] and k not in away and k not in inside]


def told_gaps(book, casting, away, scene):
    return [part for part in book[2][scene][3] if casting[part] in away]


# Whether some choice of covers does, of all choices.
def can_be_covered(book, casting, away, scene):
    gaps = told_gaps(book, casting, away, scene)
    choices = itertools.product(*[told_covers(book, casting, away, scene, gap) for gap in gaps])
    return any(len(set(choice)) == len(choice) for choice in choices)


def told_nights(book, casting, most):
    nights = []
    for size in range(min(most, len(book[1])) + 1):
        for away in itertools.combinations(range(len(book[1])), size):
            lacking = [scene for scene in range(len(book[2])) if not can_be_covered(book, casting, away, scene)]
            nights.append((away, lacking[0] if lacking else None))
    return nights


def subsets(things):
    return [list(some) for size in range(len(things) + 1) for some in itertools.combinations(things, size)]


# A drawn book and a casting that plays it: parts meet in scenes only where their players are unlike.
def drawn_play(spread, parts, players, scenes):
    casting = [spread.randrange(players) for part in range(parts)] if players else []
    parts = len(casting)
    told = []
    for at in range(scenes):
        order = spread.sample(range(parts), parts)
        numbers = []
        for part in order[:spread.randrange(parts + 1)]:
            if casting[part] not in [casting[other] for other in numbers]:
                numbers.append(part)
        told.append([LETTERS[part] for part in numbers])
    pairs = list(itertools.product(LETTERS[:parts], NAMES[:players]))
    covers = spread.sample(pairs, spread.randrange(len(pairs) + 1))
    return book_of(parts, players, told, covers), casting


class NightsTest(unittest.TestCase):
    # A repr tells 1 from True and a list from a tuple, which == on numbers does not.
    def same(self, got, wanted):
        self.assertEqual(repr(got), repr(wanted))

    def right(self, book, casting, away, scene, told):
        self.assertIs(told.__class__, tuple)
        gaps = told_gaps(book, casting, away, scene)
        self.assertEqual(told[0] == "covered", can_be_covered(book, casting, away, scene), (book, casting, away, scene))
        if told[0] == "covered":
            self.assertEqual(len(told), 2)
            self.same([part for part, player in told[1]], gaps)
            players = [player for part, player in told[1]]
            self.assertEqual(len(set(players)), len(players))
            for pair in told[1]:
                self.assertIs(pair.__class__, tuple)
                self.assertIn(repr(pair[1]), map(repr, told_covers(book, casting, away, scene, pair[0])))
            return
        kind, parts, players = told
        self.assertEqual(kind, "lacks")
        self.same(parts, sorted(set(parts)))
        self.assertTrue(set(parts) <= set(gaps))
        may = [player for part in parts for player in told_covers(book, casting, away, scene, part)]
        self.same(players, sorted(set(may)))
        self.assertTrue(len(players) < len(parts))


class TestCovered(NightsTest):
    def test_one_gap_and_one_cover(self):
        book = book_of(2, 3, ["ab"], ["au"])
        self.same(scene_of_night(book, [0, 1], [0], 0), ("covered", [(0, 2)]))

    def test_gaps_in_the_order_of_the_scene(self):
        book = book_of(3, 5, ["cab"], ["av", "cw"])
        self.same(scene_of_night(book, [0, 1, 2], [0, 2], 0), ("covered", [(2, 4), (0, 3)]))
        self.same(scene_of_night(book, [0, 1, 2], [2, 0], 0), ("covered", [(2, 4), (0, 3)]))

    def test_a_cover_is_given_on(self):
        # Who stands first for a is the only one for b; and the other way round.
        book = book_of(2, 4, ["ab", "ba"], ["au", "av", "bu"])
        self.same(night_of(book, [0, 1], [0, 1]), [("covered", [(0, 3), (1, 2)]), ("covered", [(1, 2), (0, 3)])])
        book = book_of(2, 4, ["ab", "ba"], ["au", "av", "bv"])
        self.same(night_of(book, [0, 1], [0, 1]), [("covered", [(0, 2), (1, 3)]), ("covered", [(1, 3), (0, 2)])])

    def test_covers_are_given_on_one_after_the_other(self):
        for order in itertools.permutations("abc"):
            for names in itertools.permutations([3, 4, 5]):
                one, two, three = names
                pairs = [(0, one), (0, two), (1, two), (1, three), (2, three)]
                book = book_of(3, 6, ["".join(order)], [LETTERS[part] + NAMES[player] for part, player in pairs])
                wanted = {0: one, 1: two, 2: three}
                told = scene_of_night(book, [0, 1, 2], [0, 1, 2], 0)
                self.same(told, ("covered", [("abc".index(name), wanted["abc".index(name)]) for name in order]))

    def test_who_plays_in_another_scene_may_cover(self):
        book = book_of(2, 2, ["a", "b"], ["at", "bs"])
        self.same(night_of(book, [0, 1], [0]), [("covered", [(0, 1)]), ("covered", [])])
        self.same(night_of(book, [0, 1], [1]), [("covered", []), ("covered", [(1, 0)])])

    def test_no_voice_and_no_time_is_asked_of_who_covers(self):
        book = read_book(["part a m 9 9", "part b m 9 9", "player s m 1", "player t m 1", "player u - 1",
                          "scene x 0 0 a", "scene y 0 0 b", "cover a t", "cover b u"])
        self.same(night_of(book, [0, 1], [0]), [("covered", [(0, 1)]), ("covered", [])])
        self.same(night_of(book, [0, 1], [1]), [("covered", []), ("covered", [(1, 2)])])

    def test_one_covers_in_each_of_several_scenes(self):
        book = book_of(3, 4, ["a", "ab", "b", "ac"], ["av", "bv"])
        self.same(night_of(book, [0, 1, 2], [0]),
                  [("covered", [(0, 3)]), ("covered", [(0, 3)]), ("covered", []), ("covered", [(0, 3)])])

    def test_nobody_away(self):
        book = book_of(3, 3, ["abc", "ca", ""], ["at", "bu"])
        self.same(night_of(book, [0, 1, 2], []), [("covered", []), ("covered", []), ("covered", [])])
        self.same(scene_of_night(book, [0, 1, 2], [], 1), ("covered", []))

    def test_a_scene_without_parts_and_one_without_those_away(self):
        book = book_of(2, 3, ["", "a"], [])
        self.same(night_of(book, [0, 1], [0]), [("covered", []), ("lacks", [0], [])])
        self.same(night_of(book, [0, 1], [1, 2]), [("covered", []), ("covered", [])])


class TestLacks(NightsTest):
    def test_nobody_may_cover(self):
        book = book_of(2, 3, ["ab"], ["bu"])
        self.same(scene_of_night(book, [0, 1], [0], 0), ("lacks", [0], []))

    def test_a_cover_of_another_part_is_none(self):
        # Part 2 may be covered by player 0 and part 0 by player 2: the two must not be mixed up.
        book = book_of(3, 3, ["a", "b", "c"], ["cs", "au"])
        self.same(night_of(book, [1, 1, 1], [1]), [("covered", [(0, 2)]), ("lacks", [1], []), ("covered", [(2, 0)])])

    def test_a_cover_who_is_away_is_none(self):
        book = book_of(2, 3, ["a"], ["au", "as"])
        self.same(scene_of_night(book, [0, 1], [0, 2], 0), ("lacks", [0], []))
        self.same(scene_of_night(book, [0, 1], [2, 0], 0), ("lacks", [0], []))

    def test_a_cover_with_a_part_in_this_scene_is_none(self):
        book = book_of(2, 2, ["ab"], ["at", "bs"])
        self.same(scene_of_night(book, [0, 1], [0], 0), ("lacks", [0], []))
        self.same(scene_of_night(book, [0, 1], [1], 0), ("lacks", [1], []))

    def test_two_gaps_and_one_cover(self):
        book = book_of(2, 3, ["ba"], ["au", "bu"])
        self.same(scene_of_night(book, [0, 1], [0, 1], 0), ("lacks", [0, 1], [2]))

    def test_three_gaps_and_two_covers_rising(self):
        for order in itertools.permutations("abc"):
            book = book_of(3, 5, ["".join(order)], ["aw", "av", "bv", "bw", "cw", "cv"])
            self.same(scene_of_night(book, [2, 1, 0], [0, 1, 2], 0), ("lacks", [0, 1, 2], [3, 4]))

    def test_only_gaps_that_lack_are_told(self):
        # Part a has two covers of its own: with it the gaps told would not be more than their covers.
        for order in itertools.permutations("abc"):
            book = book_of(3, 6, ["".join(order)], ["av", "aw", "bx", "cx"])
            self.same(scene_of_night(book, [0, 1, 2], [0, 1, 2], 0), ("lacks", [1, 2], [5]))

    def test_all_players_of_the_gaps_told(self):
        for order in itertools.permutations("abcd"):
            book = book_of(4, 6, ["".join(order)], ["aw", "bw", "bx", "cx", "dw", "dx"])
            told = scene_of_night(book, [0, 1, 2, 3], [0, 1, 2, 3], 0)
            self.right(book, [0, 1, 2, 3], [0, 1, 2, 3], 0, told)
            self.assertEqual(told[0], "lacks")

    def test_all_away(self):
        book = book_of(3, 3, ["a", "", "cb"], ["at", "au", "as", "bs", "cs", "bt"])
        night = night_of(book, [0, 1, 2], [0, 1, 2])
        self.same(night[:2], [("lacks", [0], []), ("covered", [])])
        self.right(book, [0, 1, 2], [0, 1, 2], 2, night[2])
        self.assertEqual(night[2][0], "lacks")


class TestAgainstAllChoices(NightsTest):
    def test_every_set_of_covers_of_three_gaps(self):
        pairs = list(itertools.product("abc", "vwx"))
        kinds = []
        for mask in range(1 << len(pairs)):
            covers = [pair for at, pair in enumerate(pairs) if mask >> at & 1]
            book = book_of(3, 6, ["bca"], ["".join(pair) for pair in covers])
            told = scene_of_night(book, [2, 0, 1], [0, 1, 2], 0)
            self.right(book, [2, 0, 1], [0, 1, 2], 0, told)
            kinds.append(told[0])
        self.assertTrue(kinds.count("covered") > 200 and kinds.count("lacks") > 200)

    def test_drawn_plays_and_all_sets_away(self):
        spread = random.Random(18)
        kinds = []
        for at in range(120):
            book, casting = drawn_play(spread, spread.randrange(9), spread.randrange(7), spread.randrange(6))
            self.assertEqual(faults_of(book, casting), [])
            for away in subsets(range(len(book[1]))):
                spread.shuffle(away)
                night = night_of(book, casting, away)
                self.assertIs(night.__class__, list)
                self.assertEqual(len(night), len(book[2]))
                for scene, told in enumerate(night):
                    self.right(book, casting, away, scene, told)
                    self.right(book, casting, away, scene, scene_of_night(book, casting, away, scene))
                    kinds.append((told[0], told[1] == []))
        for kind in [("covered", True), ("covered", False), ("lacks", False)]:
            self.assertTrue(kinds.count(kind) > 300, kind)


class TestNights(NightsTest):
    def test_told_nights(self):
        book = book_of(3, 3, ["a", "bc"], ["at", "bs"])
        self.same(nights_of(book, [0, 1, 2], 0), [((), None)])
        self.same(nights_of(book, [0, 1, 2], 1), [((), None), ((0,), None), ((1,), None), ((2,), 1)])
        self.same(nights_of(book, [0, 1, 2], 2), [
            ((), None), ((0,), None), ((1,), None), ((2,), 1), ((0, 1), 0), ((0, 2), 1), ((1, 2), 1)])
        all_told = nights_of(book, [0, 1, 2], 2) + [((0, 1, 2), 0)]
        for most in range(3, 8):
            self.same(nights_of(book, [0, 1, 2], most), all_told)

    def test_the_first_scene_that_lacks(self):
        book = book_of(2, 2, ["", "b", "a", "ab"], [])
        self.same(nights_of(book, [0, 1], 6), [((), None), ((0,), 2), ((1,), 1), ((0, 1), 1)])

    def test_sets_of_six_players(self):
        book = book_of(1, 6, ["a"], ["at"])
        for most in range(7):
            nights = nights_of(book, [0], most)
            sets = [away for size in range(most + 1) for away in itertools.combinations(range(6), size)]
            self.same([away for away, scene in nights], sets)
            self.same([scene for away, scene in nights],
                      [0 if 0 in away and 1 in away else None for away in sets])

    def test_books_without_scenes_parts_or_players(self):
        for most in range(7):
            sets = [away for size in range(most + 1) for away in itertools.combinations(range(3), size)]
            for parts, casting in [(2, [0, 1]), (0, [])]:
                self.same(nights_of(book_of(parts, 3, [], []), casting, most), [(away, None) for away in sets])
            self.same(nights_of(book_of(0, 3, ["", ""], []), [], most), [(away, None) for away in sets])
            self.same(nights_of(book_of(0, 0, ["", ""], []), [], most), [((), None)])
            self.same(nights_of(book_of(0, 0, [], []), [], most), [((), None)])
        self.same(night_of(book_of(2, 3, [], []), [0, 1], [0, 1]), [])
        self.same(night_of(book_of(0, 3, ["", ""], []), [], [2]), [("covered", []), ("covered", [])])
        self.same(night_of(book_of(0, 0, [""], []), [], []), [("covered", [])])
        self.same(night_of(book_of(0, 0, [], []), [], []), [])

    def test_drawn_plays(self):
        spread = random.Random(19)
        lacking = []
        for at in range(60):
            book, casting = drawn_play(spread, spread.randrange(9), spread.randrange(7), spread.randrange(6))
            for most in range(7):
                nights = nights_of(book, casting, most)
                self.same(nights, told_nights(book, casting, most))
                lacking.extend([scene for away, scene in nights])
        for scene in [None, 0, 1, 2]:
            self.assertIn(scene, lacking)

    def test_a_full_book(self):
        casting = [0, 1, 2, 3, 4, 5, 0, 1]
        rows = [f"part {letter} m 0 0" for letter in LETTERS] + [f"player {letter} m 1" for letter in NAMES]
        rows.extend([f"scene {one}{other} 1 1 " + " ".join(names)
                     for one, names in [("x", "abcdef"), ("y", "ghcdef"), ("z", "ab")] for other in LETTERS])
        rows.extend([f"cover {part} {player}" for part in LETTERS for player in NAMES])
        book = read_book(rows)
        self.assertEqual([len(book[0]), len(book[1]), len(book[2])], [8, 6, 24])
        self.same(nights_of(book, casting, 6), told_nights(book, casting, 6))


class TestRefused(NightsTest):
    BOOK = read_book(["part a s 0 0", "part b t 0 0", "part c s 2 2", "player p st 1", "player q s 1",
                      "scene x 1 1 a b", "scene y 1 1 c", "cover a q"])

    def refused(self, book, casting):
        for away in [[], [0], [1, 0]]:
            for scene in range(len(book[2])):
                with self.assertRaises(NoCasting):
                    scene_of_night(book, casting, away, scene)
            with self.assertRaises(NoCasting):
                night_of(book, casting, away)
        for most in range(7):
            with self.assertRaises(NoCasting):
                nights_of(book, casting, most)

    def test_nobody_in_a_part(self):
        for casting in [[None, 0, 1], [1, None, 1], [1, 0, None], [None, None, None]]:
            self.refused(self.BOOK, casting)

    def test_a_voice_that_the_player_has_not(self):
        self.refused(self.BOOK, [0, 1, 0])

    def test_a_clash(self):
        self.refused(self.BOOK, [0, 0, 1])
        self.assertEqual(faults_of(self.BOOK, [0, 0, 1]), [("clash", 0, 1)])

    def test_a_clash_by_a_change(self):
        self.refused(self.BOOK, [1, 0, 0])
        self.assertEqual(faults_of(self.BOOK, [1, 0, 0]), [("clash", 1, 2)])

    def test_one_that_plays_is_not_refused(self):
        book = read_book(["part a s 0 0", "part b t 0 0", "part c s 1 2", "player p st 1", "player q s 1",
                          "scene x 1 3 a b", "scene y 1 1 c", "cover a q"])
        self.same(night_of(book, [1, 0, 0], [1]), [("lacks", [0], []), ("covered", [])])

    def test_without_scenes(self):
        book = read_book(["part a s 0 0", "player p t 1", "player q s 1"])
        self.refused(book, [None])
        self.refused(book, [0])
        self.same(night_of(book, [1], [1]), [])


class TestHandedIn(NightsTest):
    def test_nothing_is_changed(self):
        spread = random.Random(20)
        for at in range(40):
            book, casting = drawn_play(spread, 5, 4, 4)
            for away in subsets(range(4)):
                things = [book, casting, away]
                kept = repr(things)
                for scene in range(4):
                    scene_of_night(book, casting, away, scene)
                night_of(book, casting, away)
                nights_of(book, casting, 2)
                self.assertEqual(repr(things), kept)

    def test_the_lists_are_the_askers_own(self):
        book = book_of(3, 4, ["ab", "c", ""], ["av", "bv"])
        casting = [0, 1, 2]
        for away in [[], [0], [0, 1], [2]]:
            for scene in range(3):
                first = scene_of_night(book, casting, away, scene)
                kept = copy.deepcopy(first)
                for told in first[1:]:
                    told.append("else")
                self.same(scene_of_night(book, casting, away, scene), kept)
            night = night_of(book, casting, away)
            kept = copy.deepcopy(night)
            for told in night:
                for inner in told[1:]:
                    inner.append("else")
            night.append("else")
            self.same(night_of(book, casting, away), kept)
            self.assertEqual(len({id(inner) for told in kept for inner in told[1:]}),
                             sum([len(told) - 1 for told in kept]))
        nights = nights_of(book, casting, 2)
        kept = list(nights)
        nights.clear()
        self.same(nights_of(book, casting, 2), kept)
        self.assertEqual([casting, away], [[0, 1, 2], [2]])


if __name__ == "__main__":
    unittest.main()
