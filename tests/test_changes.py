import itertools
import random
import unittest

from troupe.books import read_book, written_book
from troupe.castings import faults_of
from troupe.changes import changed, hurt_by, shift_of, way_back
from troupe.clashes import clashes_of, reason_of
from troupe.errors import NoChange

MOST = 999999999

ROWS = [
    "part a s 3 4", "part b s 1 2", "part c t 2 1", "part d s 4 4",
    "player x s 1", "player y st 2",
    "scene hall 9 4 b a d", "scene wood 5 3 c", "scene gate 8 6", "scene moor 2 9 d a",
    "like x a 3", "cover b y",
]
BOOK = read_book(ROWS)
HALL, WOOD, GATE, MOOR = BOOK[2]


def with_scenes(book, scenes):
    return (book[0], book[1], tuple(scenes), book[3], book[4])


def drawn_book(spread, parts, scenes):
    letters = "abcdefgh"[:parts]
    rows = [f"part {letter} s {spread.randrange(4)} {spread.randrange(4)}" for letter in letters]
    rows.extend(["player x s 1", "player y st 2"])
    for letter in "ijklmnop"[:scenes]:
        names = spread.sample(letters, spread.randrange(min(parts, 3) + 1))
        rows.append(" ".join(["scene", letter, str(spread.randrange(5)), str(spread.randrange(5))] + names))
    if parts:
        rows.extend(["like y a 7", "cover a x"])
    return read_book(rows)


# A second reading of the document, scene by scene on lists: the scenes behind a change, or None where it doesn't fit.
def told_scenes(book, change):
    scenes = [list(scene) for scene in book[2]]
    kind, at, rest = change[0], change[1], list(change[2:])
    numbers = range(len(scenes) + 1 if kind == "add" else len(scenes))
    if at not in numbers or kind == "move" and rest[0] not in numbers:
        return None
    if kind in ("length", "pause"):
        if rest[0] < 0 or len(str(rest[0])) > 9:
            return None
        scenes[at][1 if kind == "length" else 2] = rest[0]
    elif kind == "enter":
        if rest[0] not in range(len(book[0])) or rest[0] in scenes[at][3]:
            return None
        scenes[at][3] = scenes[at][3] + tuple(rest)
    elif kind == "leave":
        if rest[0] not in scenes[at][3]:
            return None
        place = scenes[at][3].index(rest[0])
        scenes[at][3] = scenes[at][3][:place] + scenes[at][3][place + 1:]
    elif kind == "add":
        name, length, pause, parts = rest[0]
        letters = 1 <= len(name) <= 8 and all(sign in "abcdefghijklmnopqrstuvwxyz" for sign in name)
        minutes = all(number >= 0 and len(str(number)) <= 9 for number in (length, pause))
        known = all(part in range(len(book[0])) for part in parts)
        if not letters or not minutes or not known or len(set(parts)) < len(parts):
            return None
        if name in [scene[0] for scene in scenes]:
            return None
        scenes.insert(at, rest[0])
    else:
        scene = scenes.pop(at)
        if kind == "move":
            scenes.insert(rest[0], scene)
    return tuple([tuple(scene) for scene in scenes])


def some_scenes(book):
    parts = tuple(range(len(book[0])))
    names = ["new", "abcdefgh", "abcdefghi", "", "New", "ne w", "n3w", "-"] + [scene[0] for scene in book[2]]
    scenes = [(name, 1, 2, parts[:1]) for name in names]
    amounts = [0, 1, MOST, MOST + 1, -1]
    scenes.extend([("new", length, pause, parts) for length, pause in itertools.product(amounts, amounts)])
    rows = [(), parts[::-1], parts[:1] + parts[:1], parts + (len(parts),), (-1,), parts + (0,)]
    return scenes + [("new", 3, 4, row) for row in rows]


# Changes of all kinds at numbers in the book and around it, those that fit and those that don't.
def some_changes(book):
    numbers = range(-2, len(book[2]) + 3)
    parts = range(-2, len(book[0]) + 2)
    amounts = [0, 1, 12345, MOST, MOST + 1, -1, -MOST, 10 ** 19]
    changes = [("move", at, to) for at, to in itertools.product(numbers, numbers)]
    changes.extend([("cut", at) for at in numbers])
    changes.extend([(kind, at, minutes) for kind in ("length", "pause") for at in numbers for minutes in amounts])
    changes.extend([(kind, at, part) for kind in ("enter", "leave") for at in numbers for part in parts])
    return changes + [("add", at, scene) for at in numbers for scene in some_scenes(book)]


def drawn_books():
    spread = random.Random(20)
    return [drawn_book(spread, spread.randrange(6), spread.randrange(6)) for at in range(12)]


class ChangesTest(unittest.TestCase):
    # A repr tells 1 from True and a list from a tuple, which == on numbers does not.
    def same(self, got, wanted):
        self.assertEqual(repr(got), repr(wanted))

    def refused(self, book, change):
        kept = repr((book, change))
        with self.assertRaises(NoChange, msg=change):
            changed(book, change)
        with self.assertRaises(NoChange, msg=change):
            way_back(book, change)
        self.assertEqual(repr((book, change)), kept)


class TestChanged(ChangesTest):
    def becomes(self, change, scenes):
        self.same(changed(BOOK, change), with_scenes(BOOK, scenes))

    def test_move(self):
        self.becomes(("move", 0, 3), [WOOD, GATE, MOOR, HALL])
        self.becomes(("move", 3, 0), [MOOR, HALL, WOOD, GATE])
        self.becomes(("move", 0, 1), [WOOD, HALL, GATE, MOOR])
        self.becomes(("move", 1, 0), [WOOD, HALL, GATE, MOOR])
        self.becomes(("move", 1, 2), [HALL, GATE, WOOD, MOOR])
        self.becomes(("move", 3, 1), [HALL, MOOR, WOOD, GATE])
        self.becomes(("move", 0, 2), [WOOD, GATE, HALL, MOOR])

    def test_move_to_the_same_number(self):
        for at in range(4):
            self.becomes(("move", at, at), [HALL, WOOD, GATE, MOOR])

    def test_cut(self):
        self.becomes(("cut", 0), [WOOD, GATE, MOOR])
        self.becomes(("cut", 2), [HALL, WOOD, MOOR])
        self.becomes(("cut", 3), [HALL, WOOD, GATE])

    def test_add(self):
        new = ("sea", 0, MOST, (3, 0, 2))
        self.becomes(("add", 0, new), [new, HALL, WOOD, GATE, MOOR])
        self.becomes(("add", 2, new), [HALL, WOOD, new, GATE, MOOR])
        self.becomes(("add", 3, new), [HALL, WOOD, GATE, new, MOOR])
        self.becomes(("add", 4, new), [HALL, WOOD, GATE, MOOR, new])

    def test_add_with_the_name_of_a_part_or_a_player(self):
        for name in ["a", "x"]:
            self.becomes(("add", 1, (name, 1, 1, ())), [HALL, (name, 1, 1, ()), WOOD, GATE, MOOR])

    def test_length_and_pause(self):
        self.becomes(("length", 0, 0), [("hall", 0, 4, (1, 0, 3)), WOOD, GATE, MOOR])
        self.becomes(("length", 1, MOST), [HALL, ("wood", MOST, 3, (2,)), GATE, MOOR])
        self.becomes(("length", 3, 7), [HALL, WOOD, GATE, ("moor", 7, 9, (3, 0))])
        self.becomes(("pause", 0, MOST), [("hall", 9, MOST, (1, 0, 3)), WOOD, GATE, MOOR])
        self.becomes(("pause", 2, 0), [HALL, WOOD, ("gate", 8, 0, ()), MOOR])
        self.becomes(("pause", 3, 9), [HALL, WOOD, GATE, MOOR])

    def test_enter(self):
        self.becomes(("enter", 0, 2), [("hall", 9, 4, (1, 0, 3, 2)), WOOD, GATE, MOOR])
        self.becomes(("enter", 1, 0), [HALL, ("wood", 5, 3, (2, 0)), GATE, MOOR])
        self.becomes(("enter", 2, 3), [HALL, WOOD, ("gate", 8, 6, (3,)), MOOR])
        self.becomes(("enter", 3, 1), [HALL, WOOD, GATE, ("moor", 2, 9, (3, 0, 1))])

    def test_leave(self):
        self.becomes(("leave", 0, 1), [("hall", 9, 4, (0, 3)), WOOD, GATE, MOOR])
        self.becomes(("leave", 0, 0), [("hall", 9, 4, (1, 3)), WOOD, GATE, MOOR])
        self.becomes(("leave", 0, 3), [("hall", 9, 4, (1, 0)), WOOD, GATE, MOOR])
        self.becomes(("leave", 1, 2), [HALL, ("wood", 5, 3, ()), GATE, MOOR])
        self.becomes(("leave", 3, 3), [HALL, WOOD, GATE, ("moor", 2, 9, (0,))])

    def test_a_book_with_one_scene(self):
        book = read_book(ROWS[:7])
        self.same(changed(book, ("cut", 0)), with_scenes(book, []))
        self.same(changed(book, ("move", 0, 0)), book)

    def test_a_book_without_scenes(self):
        for book in [read_book([]), read_book(ROWS[:6])]:
            parts = tuple(range(len(book[0])))
            self.same(changed(book, ("add", 0, ("sea", 1, 2, parts))), with_scenes(book, [("sea", 1, 2, parts)]))
            for change in [("move", 0, 0), ("cut", 0), ("length", 0, 1), ("pause", 0, 1), ("enter", 0, 0),
                           ("leave", 0, 0), ("add", 1, ("sea", 1, 2, ())), ("cut", -1), ("move", -1, -1)]:
                self.refused(book, change)


class TestRefused(ChangesTest):
    def test_numbers_of_scenes(self):
        for at in [-1, -4, -5, 4, 5, 10 ** 19, -10 ** 19]:
            for change in [("move", at, 0), ("move", 0, at), ("move", at, at), ("cut", at), ("length", at, 1),
                           ("pause", at, 1), ("enter", at, 2), ("leave", at, 3)]:
                self.refused(BOOK, change)
        for at in [-1, -4, -5, 5, 6, 10 ** 19]:
            self.refused(BOOK, ("add", at, ("sea", 1, 1, ())))

    def test_a_part_that_is_not_in_the_book(self):
        for part in [-1, -4, -5, 4, 5, 10 ** 19]:
            for at in range(4):
                self.refused(BOOK, ("enter", at, part))
                self.refused(BOOK, ("leave", at, part))

    def test_who_enters_is_there(self):
        for change in [("enter", 0, 0), ("enter", 0, 1), ("enter", 0, 3), ("enter", 1, 2), ("enter", 3, 3)]:
            self.refused(BOOK, change)

    def test_who_leaves_is_not_there(self):
        for change in [("leave", 0, 2), ("leave", 1, 0), ("leave", 2, 0), ("leave", 2, 3), ("leave", 3, 1)]:
            self.refused(BOOK, change)

    def test_minutes(self):
        for minutes in [-1, -MOST, MOST + 1, 1234567890, 10 ** 19]:
            self.refused(BOOK, ("length", 1, minutes))
            self.refused(BOOK, ("pause", 1, minutes))
            self.refused(BOOK, ("add", 1, ("sea", minutes, 1, ())))
            self.refused(BOOK, ("add", 1, ("sea", 1, minutes, ())))

    def test_an_added_scene_whose_name_is_none(self):
        for name in ["", "abcdefghi", "Sea", "se a", "sea ", " sea", "sea2", "-", "sea;", "SEA"]:
            self.refused(BOOK, ("add", 1, (name, 1, 1, (0,))))

    def test_an_added_scene_whose_name_is_there(self):
        for name, at in itertools.product(["hall", "wood", "gate", "moor"], range(5)):
            self.refused(BOOK, ("add", at, (name, 1, 1, (0,))))

    def test_an_added_scene_with_wrong_parts(self):
        for parts in [(0, 0), (1, 2, 1), (4,), (0, 4), (-1,), (-1, 0), (0, 10 ** 19)]:
            self.refused(BOOK, ("add", 2, ("sea", 1, 1, parts)))


class TestAgainstASecondReading(ChangesTest):
    def test_all_changes_of_drawn_books(self):
        many = {}
        for book in [BOOK, read_book([]), read_book(ROWS[:6])] + drawn_books():
            for change in some_changes(book):
                wanted = told_scenes(book, change)
                many[change[0], wanted is None] = many.get((change[0], wanted is None), 0) + 1
                if wanted is None:
                    self.refused(book, change)
                    continue
                kept = repr((book, change))
                new = changed(book, change)
                self.same(new, with_scenes(book, wanted))
                self.same(read_book(written_book(new)), new)
                self.assertEqual(repr((book, change)), kept)
        self.assertEqual(len(many), 14)
        self.assertTrue(min(many.values()) > 20, many)


class TestWayBack(ChangesTest):
    def leads_back(self, book, change):
        kept = repr((book, change))
        row = way_back(book, change)
        self.assertIs(row.__class__, list)
        self.assertEqual(repr((book, change)), kept)
        now = changed(book, change)
        for step in row:
            self.assertIs(step.__class__, tuple)
            self.assertIsNotNone(told_scenes(now, step), (book, change, row))
            now = changed(now, step)
        self.same(now, book)

    def test_each_kind(self):
        changes = [("move", 0, 3), ("move", 3, 0), ("move", 1, 2), ("move", 2, 2), ("cut", 0), ("cut", 1), ("cut", 3),
                   ("add", 0, ("sea", 1, 2, (2, 0))), ("add", 2, ("sea", 1, 2, ())), ("add", 4, ("sea", 0, 0, (3,))),
                   ("length", 0, 5), ("length", 3, MOST), ("length", 1, 5), ("pause", 0, 0), ("pause", 2, 6),
                   ("pause", 3, 1), ("enter", 0, 2), ("enter", 1, 3), ("enter", 2, 0), ("enter", 3, 1)]
        for change in changes:
            self.leads_back(BOOK, change)

    def test_a_part_that_leaves_from_each_place(self):
        for parts in itertools.permutations(range(4)):
            for size, scene in itertools.product(range(1, 5), range(4)):
                scenes = list(BOOK[2])
                scenes[scene] = (scenes[scene][0], 3, 4, parts[:size])
                for part in parts[:size]:
                    self.leads_back(with_scenes(BOOK, scenes), ("leave", scene, part))

    def test_all_changes_of_drawn_books_that_fit(self):
        many = {}
        for book in [BOOK, read_book([]), read_book(ROWS[:6])] + drawn_books():
            for change in some_changes(book):
                if told_scenes(book, change) is not None:
                    many[change[0]] = many.get(change[0], 0) + 1
                    self.leads_back(book, change)
        self.assertEqual(len(many), 7)
        self.assertTrue(min(many.values()) > 20, many)

    def test_the_list_is_the_askers_own(self):
        for change in [("move", 0, 3), ("move", 1, 1), ("cut", 0), ("add", 0, ("sea", 1, 2, (2, 0))), ("length", 0, 5),
                       ("pause", 0, 4), ("enter", 0, 2), ("leave", 0, 0)]:
            row = way_back(BOOK, change)
            kept = repr(row)
            row.clear()
            row.append("else")
            self.assertEqual(repr(way_back(BOOK, change)), kept)


class TestShift(ChangesTest):
    def shift(self, book, other):
        kept = repr((book, other))
        one = [pair for pair in itertools.combinations(range(len(book[0])), 2) if reason_of(book, *pair)]
        two = [pair for pair in itertools.combinations(range(len(book[0])), 2) if reason_of(other, *pair)]
        self.same(clashes_of(book), one)
        come = [pair for pair in two if pair not in one]
        gone = [pair for pair in one if pair not in two]
        self.same(shift_of(book, other), (come, gone))
        self.same(shift_of(other, book), (gone, come))
        self.assertEqual(repr((book, other)), kept)
        return (come, gone)

    def test_told_shifts(self):
        rows = ["part a s 0 0", "part b s 0 0", "part c s 0 0", "part d s 0 0"]
        one = read_book(rows + ["scene x 1 1 a b", "scene y 1 1 d c"])
        two = read_book(rows + ["scene x 1 1 c b a"])
        self.same(shift_of(one, two), ([(0, 2), (1, 2)], [(2, 3)]))
        self.same(shift_of(two, one), ([(2, 3)], [(0, 2), (1, 2)]))
        self.same(shift_of(one, read_book(rows)), ([], [(0, 1), (2, 3)]))
        self.same(shift_of(read_book(rows), one), ([(0, 1), (2, 3)], []))
        # The clash stays where its reason is another one.
        three = read_book(["part a s 1 1", "part b s 1 1", "part c s 0 0", "part d s 0 0"] +
                          ["scene x 1 1 a", "scene y 1 1 b", "scene z 1 1 c d"])
        self.same(shift_of(one, three), ([], []))

    def test_to_itself(self):
        for book in [BOOK, read_book([]), read_book(ROWS[:6])] + drawn_books():
            self.same(shift_of(book, book), ([], []))
            self.same(shift_of(book, read_book(written_book(book))), ([], []))

    def test_books_without_parts(self):
        self.same(shift_of(read_book([]), read_book(["player x - 0", "scene y 1 1"])), ([], []))

    def test_drawn_books(self):
        spread = random.Random(22)
        sizes = []
        for at in range(300):
            parts = spread.randrange(7)
            shift = self.shift(drawn_book(spread, parts, spread.randrange(5)),
                               drawn_book(spread, parts, spread.randrange(5)))
            sizes.append((len(shift[0]) > 1, len(shift[1]) > 1))
        for size in itertools.product([True, False], repeat=2):
            self.assertTrue(sizes.count(size) > 10, size)

    def test_changes_of_drawn_books(self):
        for book in drawn_books():
            for change in some_changes(book)[::3]:
                if told_scenes(book, change) is not None:
                    self.shift(book, changed(book, change))

    def test_the_lists_are_the_askers_own(self):
        for book, other in [(BOOK, read_book(ROWS[:6])), (read_book(ROWS[:6]), BOOK), (BOOK, BOOK)]:
            first = shift_of(book, other)
            kept = repr(first)
            first[0].append("else")
            first[1].append("more")
            self.assertEqual(repr(shift_of(book, other)), kept)


class TestHurt(ChangesTest):
    def test_told_castings(self):
        castings = [[0, 1, 0], [0, 0, 1], [1, 0, 0], [1, 1, 1], [0, 1, 2]]
        self.same(hurt_by(([(0, 1)], []), castings), [1, 3])
        self.same(hurt_by(([(0, 2)], []), castings), [0, 3])
        self.same(hurt_by(([(0, 1), (1, 2)], []), castings), [1, 2, 3])
        self.same(hurt_by(([(0, 1), (0, 2), (1, 2)], []), castings), [0, 1, 2, 3])

    def test_pairs_gone_hurt_nobody(self):
        castings = [[0, 0, 0], [1, 1, 0]]
        self.same(hurt_by(([], [(0, 1), (0, 2)]), castings), [])
        self.same(hurt_by(([(1, 2)], [(0, 1)]), castings), [0])

    def test_nobody_is_no_player(self):
        castings = [[None, None, 0], [None, 0, 0], [0, None, 0], [None, None, None], [0, 0, None]]
        self.same(hurt_by(([(0, 1)], []), castings), [4])
        self.same(hurt_by(([(0, 1), (1, 2)], []), castings), [1, 4])
        self.same(hurt_by(([(0, 1), (0, 2), (1, 2)], []), castings), [1, 2, 4])

    def test_no_castings_and_no_parts(self):
        self.same(hurt_by(([(0, 1)], []), []), [])
        self.same(hurt_by(([], []), [[], []]), [])
        self.same(hurt_by(([], []), [[0, 0], [1, None]]), [])

    def test_castings_of_drawn_changes(self):
        spread = random.Random(23)
        castings = [list(some) for some in itertools.product([None, 0, 1], repeat=4)]
        spread.shuffle(castings)
        hurts = []
        for at in range(60):
            book = drawn_book(spread, 4, spread.randrange(5))
            other = drawn_book(spread, 4, spread.randrange(5))
            shift = shift_of(book, other)
            kept = repr((shift, castings))
            hurt = hurt_by(shift, castings)
            self.assertEqual(repr((shift, castings)), kept)
            wanted = []
            for number, casting in enumerate(castings):
                clashes = [fault[1:] for fault in faults_of(other, casting) if fault[0] == "clash"]
                if any(pair not in clashes_of(book) for pair in clashes):
                    wanted.append(number)
                elif faults_of(book, casting) == []:
                    self.assertEqual(clashes, [])
            self.same(hurt, wanted)
            hurts.append(len(hurt))
        self.assertTrue(0 in hurts and max(hurts) > 30 and len(set(hurts)) > 3)

    def test_the_list_is_the_askers_own(self):
        castings = [[0, 0], [0, 1], [1, 1]]
        for shift, wanted in [(([(0, 1)], []), [0, 2]), (([], []), [])]:
            hurt = hurt_by(shift, castings)
            self.same(hurt, wanted)
            hurt.append("else")
            self.same(hurt_by(shift, castings), wanted)
            self.same((shift[1], castings), ([], [[0, 0], [0, 1], [1, 1]]))


if __name__ == "__main__":
    unittest.main()
