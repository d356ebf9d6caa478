import importlib
import inspect
import itertools
import random
import unittest

from troupe.books import read_book, written_book
from troupe.castings import faults_of
from troupe.changes import changed, hurt_by, shift_of, way_back
from troupe.clashes import clashes_of, reason_of
from troupe.counts import casting_at, many_castings, number_of_casting
from troupe.desk import Desk
from troupe.errors import NoCasting, NoChange
from troupe.evenings import evening_of, hurries_of
from troupe.groups import are_right, crowd_of, fewest_of
from troupe.least import least_of
from troupe.nights import night_of, nights_of, scene_of_night
from troupe.papers import holds, paper_of
from troupe.prices import price_of, prices_of, prices_of_change
from troupe.trees import shows, tree_of

PLAYS = [
    [],
    ["part king b 3 4", "player anna b 1"],
    [
        "part king b 3 4", "part maid s 1 2", "part fool t 2 1", "part page s 4 4",
        "player anna sb 1", "player bert bts 2", "player cara - 3",
        "scene hall 9 4 maid king", "scene wood 5 3 fool", "scene gate 8 6 page", "scene moor 2 9 king",
        "cover king cara", "cover maid cara", "cover page bert", "cover fool anna",
    ],
    # Each part meets the next one around: two players do not do, though no three parts clash with one another.
    [
        "part a s 0 0", "part b s 0 0", "part c s 0 0", "part d s 0 0", "part e s 0 0",
        "player x s 1", "player y s 1", "player z s 1",
        "scene v 1 1 a b", "scene w 1 1 b c", "scene x 1 1 c d", "scene y 1 1 d e", "scene z 1 1 e a",
    ],
]


def all_castings(book):
    return [list(players) for players in itertools.product([None] + list(range(len(book[1]))), repeat=len(book[0]))]


# Rows of a small drawn play, with dresses to change, scenes to meet in, and voices that may lack.
def drawn_rows(spread):
    parts = "abcd"[:spread.randrange(5)]
    players = "xyz"[:spread.randrange(4)]
    rows = [f"part {name} {spread.choice('sst')} {spread.randrange(3)} {spread.randrange(3)}" for name in parts]
    rows.extend([f"player {name} {spread.choice(['-', 's', 'st', 'ts'])} {spread.randrange(9)}" for name in players])
    for name in "hijkl"[:spread.randrange(6)]:
        names = spread.sample(parts, spread.randrange(min(len(parts), 2) + 1))
        rows.append(" ".join(["scene", name, str(spread.randrange(3)), str(spread.randrange(4))] + names))
    likes = [f"like {one} {other} {spread.randrange(9)}" for one in players for other in parts]
    covers = [f"cover {other} {one}" for one in players for other in parts]
    rows.extend(spread.sample(likes, spread.randrange(len(likes) + 1)))
    return rows + spread.sample(covers, spread.randrange(len(covers) + 1))


def some_plays(seed, many):
    spread = random.Random(seed)
    return PLAYS + [drawn_rows(spread) for at in range(many)]


def desk_of(rows):
    desk = Desk()
    for row in rows:
        desk.say("tell " + row)
    return desk


def cast_row(book, name, casting):
    return " ".join(["cast", name] + ["-" if player is None else book[1][player][0] for player in casting])


# A second reading of what plays: everybody is there, has the voice, and a walk through the play finds nobody late.
def plays(book, casting):
    voices = all([player is not None and part[1] in book[1][player][1] for part, player in zip(book[0], casting)])
    return voices and not walk_fails(book, casting)


def subsets(things):
    return [list(some) for size in range(len(things) + 1) for some in itertools.combinations(things, size)]


# Whether a walk through the play finds somebody late, or in a scene twice.
def walk_fails(book, casting):
    for player in range(len(book[1])):
        dress = None
        free = clock = 0
        for name, length, pause, parts in book[2]:
            own = [part for part in parts if casting[part] == player]
            if len(own) > 1:
                return True
            for part in own:
                if dress not in (None, part) and clock - free < book[0][dress][2] + book[0][part][3]:
                    return True
                dress = part
            clock += length
            if own:
                free = clock
            clock += pause
    return False


class TestWhole(unittest.TestCase):
    def test_a_casting_without_faults_plays_and_leaves_time(self):
        found = []
        for rows in some_plays(1, 150):
            book = read_book(rows)
            desk = desk_of(rows)
            for casting in all_castings(book):
                faults = faults_of(book, casting)
                clash = any([fault[0] == "clash" for fault in faults])
                hurries = [hurry for player in range(len(book[1])) for hurry in hurries_of(book, casting, player)]
                desk.say(cast_row(book, "x", casting))
                with self.subTest(rows=rows, casting=casting):
                    self.assertEqual(clash, walk_fails(book, casting))
                    self.assertEqual(clash, hurries != [])
                    self.assertEqual(faults == [], plays(book, casting))
                    self.assertEqual(desk.say("faults x"), str(len(faults)))
                if faults == []:
                    self.no_player_twice(book, casting)
                found.append(faults == [])
        self.assertTrue(found.count(True) > 100 and found.count(False) > 100)

    def no_player_twice(self, book, casting):
        for player in range(len(book[1])):
            scenes = [scene for scene, part in evening_of(book, casting, player)]
            self.assertEqual(scenes, sorted(set(scenes)))

    def test_the_fewest_are_told_with_groups_and_a_tree(self):
        fewest = []
        for rows in some_plays(2, 150):
            book = read_book(rows)
            many = len(book[0])
            clashes = clashes_of(book)
            k, groups = fewest_of(many, clashes)
            tree = tree_of(many, clashes)
            fewest.append(k)
            with self.subTest(rows=rows):
                self.assertIs(are_right(many, clashes, groups), True)
                self.assertEqual(len(set(groups)), k)
                self.assertIs(shows(many, clashes, k, tree), True)
                self.assertIs(shows(many, clashes, k + 1, tree), False)
                self.assertTrue(len(crowd_of(many, clashes)) <= k)
                self.assertEqual(desk_of(rows).say("fewest"), str(k))
                # With so many players of all voices a casting plays, with fewer none does.
                players = [f"player p{letter} bst 0" for letter in "abcdef"]
                voiced = [row for row in rows if row.split(" ")[0] in ("part", "scene")]
                self.assertNotEqual(desk_of(players[:k] + voiced).say("castings"), "0")
                if k > 0:
                    self.assertEqual(desk_of(players[:k - 1] + voiced).say("castings"), "0")
        self.assertEqual(fewest[:4], [0, 1, 2, 3])

    def test_the_casting_of_least_price_plays_and_a_paper_shows_that_none_costs_less(self):
        spread = random.Random(3)
        found = []
        for rows in PLAYS + [drawn_rows(spread) for at in range(400)]:
            book = read_book(rows)
            castings = [casting for casting in all_castings(book) if plays(book, casting)]
            kept = spread.choice(all_castings(book))
            with self.subTest(rows=rows, kept=kept):
                self.least_and_its_paper(book, prices_of(book), castings)
                self.least_and_its_paper(book, prices_of_change(book, kept), castings)
                self.least_at_the_desk(rows, kept, castings)
            found.append(castings != [])
        self.assertTrue(found.count(True) > 100 and found.count(False) > 100)

    def least_and_its_paper(self, book, prices, castings):
        least = least_of(book, prices)
        paper = paper_of(book, prices)
        if castings == []:
            self.assertIsNone(least)
            self.assertIs(holds(book, prices, paper, None), True)
            return
        price, casting = least
        self.assertEqual(faults_of(book, casting), [])
        self.assertEqual(walk_fails(book, casting), False)
        self.assertEqual(price_of(prices, casting), price)
        self.assertEqual(min([price_of(prices, other) for other in castings]), price)
        self.assertIs(holds(book, prices, paper, price), True)
        self.assertIs(holds(book, prices, paper, price + 1), False)
        self.assertIs(holds(book, prices, paper, None), False)

    def least_at_the_desk(self, rows, kept, castings):
        book = read_book(rows)
        desk = desk_of(rows)
        desk.say(cast_row(book, "x", kept))
        if castings == []:
            self.assertEqual([desk.say(row) for row in ["least", "recast x", "keep y"]], ["none"] * 3)
            return
        costs = [price_of(prices_of(book), casting) for casting in castings]
        changes = [sum([one != other for one, other in zip(casting, kept)]) for casting in castings]
        self.assertEqual(desk.say("least"), str(min(costs)))
        self.assertEqual(desk.say("recast x"), str(min(changes)))
        row = " ".join(["cast", "y"] + desk.say("keep y").split())
        told = [cost for cost, casting in zip(costs, castings) if cast_row(book, "y", casting) == row]
        self.assertEqual(told, [min(costs)])
        self.assertEqual(desk.say("faults y"), "0")

    def test_each_scene_is_covered_or_parts_are_told_that_lack(self):
        found = []
        for rows in some_plays(4, 120):
            book = read_book(rows)
            desk = desk_of(rows)
            for number in range(min(many_castings(book), 6)):
                casting = casting_at(book, number)
                desk.say(cast_row(book, "x", casting))
                nights = dict(nights_of(book, casting, 6))
                self.assertEqual(len(nights), 2 ** len(book[1]))
                for away in subsets(range(len(book[1]))):
                    lacking = []
                    for scene, told in enumerate(night_of(book, casting, away)):
                        self.assertEqual(told, scene_of_night(book, casting, away, scene))
                        self.scene_told(book, casting, away, scene, told)
                        lacking.extend([scene] if told[0] == "lacks" else [])
                    self.assertEqual(nights[tuple(away)], lacking[0] if lacking else None)
                    if away:
                        names = " ".join([book[1][player][0] for player in away])
                        self.assertEqual(desk.say(f"away x {names}"),
                                         " ".join([book[2][scene][0] for scene in lacking]) or "none")
                    found.append(lacking != [])
        self.assertTrue(found.count(True) > 100 and found.count(False) > 100)

    def scene_told(self, book, casting, away, scene, told):
        parts = book[2][scene][3]
        gaps = [part for part in parts if casting[part] in away]
        may = {}
        for part in gaps:
            covers = {player for other, player in book[4] if other == part}
            may[part] = covers - set(away) - {casting[other] for other in parts}
        if told[0] == "covered":
            self.assertEqual([part for part, player in told[1]], gaps)
            self.assertEqual(len({player for part, player in told[1]}), len(gaps))
            self.assertTrue(all([player in may[part] for part, player in told[1]]))
        else:
            kind, lacking, covers = told
            self.assertEqual(kind, "lacks")
            self.assertEqual(lacking, [part for part in sorted(gaps) if part in lacking])
            self.assertEqual(covers, sorted(set().union(*[may[part] for part in lacking])))
            self.assertTrue(len(covers) < len(lacking))

    def some_changes(self, spread, book):
        scenes = range(-1, len(book[2]) + 2)
        changes = [("move", at, spread.choice(scenes)) for at in scenes] + [("cut", at) for at in scenes]
        for at in scenes:
            parts = tuple(spread.sample(range(len(book[0])), spread.randrange(len(book[0]) + 1)))
            changes.append(("add", at, ("new", spread.randrange(3), spread.randrange(3), parts)))
            changes.extend([(kind, at, spread.randrange(-1, 5)) for kind in ("length", "pause", "enter", "leave")])
        return changes

    def test_a_change_can_be_turned_back_and_changes_just_the_pairs_told(self):
        spread = random.Random(5)
        found = []
        for rows in some_plays(5, 120):
            book = read_book(rows)
            castings = all_castings(book)[::5]
            for change in self.some_changes(spread, book):
                try:
                    new = changed(book, change)
                except NoChange:
                    self.assertRaises(NoChange, way_back, book, change)
                    found.append(None)
                    continue
                back = new
                for step in way_back(book, change):
                    back = changed(back, step)
                self.assertEqual(back, book)
                self.just_the_pairs(book, new, castings)
                found.append(shift_of(book, new) != ([], []))
        self.assertTrue(min([found.count(kind) for kind in (None, True, False)]) > 100)

    def just_the_pairs(self, book, new, castings):
        come, gone = shift_of(book, new)
        for pair in itertools.combinations(range(len(book[0])), 2):
            before = reason_of(book, *pair) is not None
            after = reason_of(new, *pair) is not None
            self.assertEqual([pair in come, pair in gone], [after and not before, before and not after])
        hurt = hurt_by((come, gone), castings)
        for number, casting in enumerate(castings):
            if plays(book, casting):
                self.assertEqual(number in hurt, not plays(new, casting))

    def test_changes_at_the_desk_change_just_the_pairs_told(self):
        spread = random.Random(6)
        found = []
        for rows in some_plays(6, 150):
            desk = desk_of(rows)
            book = read_book(rows)
            for at in range(3):
                names = [scene[0] for scene in book[2]]
                if names == []:
                    break
                one, other = spread.choice(names), spread.choice(names)
                cut = spread.randrange(3) == 0
                before = self.pairs_told(desk, book)
                answer = desk.say(f"cut {one}" if cut else f"move {one} {other}")
                change = ("cut", names.index(one)) if cut else ("move", names.index(one), names.index(other))
                book = changed(book, change)
                after = self.pairs_told(desk, book)
                self.assertEqual(answer, f"{len(after - before)} {len(before - after)}")
                self.assertEqual(after, set(clashes_of(book)))
                self.assertEqual([desk.say("castings"), desk.say("least")],
                                 [desk_of(written_book(book)).say(row) for row in ["castings", "least"]])
                found.append(answer)
        self.assertTrue(len(set(found)) > 4, set(found))

    def pairs_told(self, desk, book):
        pairs = itertools.combinations(range(len(book[0])), 2)
        return {(i, j) for i, j in pairs if desk.say(f"why {book[0][i][0]} {book[0][j][0]}") != "no"}

    def test_all_castings_that_play_are_counted_and_told_each_once(self):
        counts = []
        for rows in some_plays(7, 150):
            book = read_book(rows)
            desk = desk_of(rows)
            wanted = sorted([casting for casting in all_castings(book) if plays(book, casting)])
            counts.append(len(wanted))
            with self.subTest(rows=rows):
                self.assertEqual(many_castings(book), len(wanted))
                self.assertEqual(desk.say("castings"), str(len(wanted)))
                self.assertEqual([casting_at(book, number) for number in range(len(wanted))], wanted)
                for number, casting in enumerate(wanted):
                    self.assertEqual(number_of_casting(book, casting), number)
                    names = desk.say(f"casting {number} x").split()
                    self.assertEqual(" ".join(["cast", "x"] + names), cast_row(book, "x", casting))
                    self.assertEqual(desk.say("number x"), str(number))
                for number in [-1, len(wanted)]:
                    self.assertRaises(NoCasting, casting_at, book, number)
                self.assertRaises(NoCasting, desk.say, f"casting {len(wanted)} x")
        self.assertTrue(0 in counts and 1 in counts and len(set(counts)) > 10)


INTERFACE = {
    "books": ["read_book(rows)", "written_book(book)"],
    "clashes": ["time_between(book, s, t)", "reason_of(book, i, j)", "clashes_of(book)"],
    "castings": ["faults_of(book, casting)"],
    "evenings": ["evening_of(book, casting, player)", "hurries_of(book, casting, player)"],
    "groups": ["are_right(many, clashes, groups)", "fewest_of(many, clashes)", "crowd_of(many, clashes)"],
    "trees": ["tree_of(many, clashes)", "shows(many, clashes, k, tree)"],
    "prices": ["prices_of(book)", "prices_of_change(book, casting)", "price_of(prices, casting)"],
    "least": ["least_of(book, prices)"],
    "papers": ["paper_of(book, prices)", "holds(book, prices, paper, price)"],
    "nights": ["scene_of_night(book, casting, away, scene)", "night_of(book, casting, away)",
               "nights_of(book, casting, most)"],
    "changes": ["changed(book, change)", "way_back(book, change)", "shift_of(book, other)",
                "hurt_by(shift, castings)"],
    "counts": ["many_castings(book)", "casting_at(book, number)", "number_of_casting(book, casting)"],
    "desk": ["Desk()"],
}


class TestInterface(unittest.TestCase):
    def test_names_and_arguments(self):
        for module, told in INTERFACE.items():
            for text in told:
                with self.subTest(module=module, text=text):
                    thing = getattr(importlib.import_module("troupe." + module), text.partition("(")[0])
                    self.assertEqual(thing.__name__ + str(inspect.signature(thing)), text)
        self.assertEqual(str(inspect.signature(Desk.say)), "(self, row)")


if __name__ == "__main__":
    unittest.main()
