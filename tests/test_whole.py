import itertools
import random
import unittest

from troupe.books import read_book
from troupe.castings import faults_of
from troupe.clashes import clashes_of
from troupe.evenings import evening_of, hurries_of
from troupe.groups import are_right, crowd_of, fewest_of
from troupe.least import least_of
from troupe.papers import holds, paper_of
from troupe.prices import price_of, prices_of, prices_of_change
from troupe.trees import shows, tree_of

PLAYS = [
    [],
    ["part king b 3 4", "player anna b 1"],
    [
        "part king b 3 4", "part maid s 1 2", "part fool t 2 1", "part page s 4 4",
        "player anna sb 1", "player bert bts 2", "player cara - 3",
        "scene hall 9 4 maid king", "scene wood 5 3 fool", "scene gate 8 6 page", "scene moor 2 9 king",
    ],
    # Each part meets the next one around: two players do not do, though no three parts clash with one another.
    [
        "part a s 0 0", "part b s 0 0", "part c s 0 0", "part d s 0 0", "part e s 0 0",
        "player x s 1", "player y s 1", "player z s 1",
        "scene v 1 1 a b", "scene w 1 1 b c", "scene x 1 1 c d", "scene y 1 1 d e", "scene z 1 1 e a",
    ],
]


def all_castings(book):
    return [list(players) for players in itertools.product([None] + list(range(len(book[1]))), repeat=len(book[0]))]


# Rows of a small drawn play, with dresses to change, scenes to meet in, and voices that may lack.
def drawn_rows(spread):
    parts = "abcd"[:spread.randrange(5)]
    players = "xyz"[:spread.randrange(4)]
    rows = [f"part {name} {spread.choice('sst')} {spread.randrange(3)} {spread.randrange(3)}" for name in parts]
    rows.extend([f"player {name} {spread.choice(['-', 's', 'st', 'ts'])} {spread.randrange(9)}" for name in players])
    for name in "hijkl"[:spread.randrange(6)]:
        names = spread.sample(parts, spread.randrange(min(len(parts), 2) + 1))
        rows.append(" ".join(["scene", name, str(spread.randrange(3)), str(spread.randrange(4))] + names))
    likes = [f"like {one} {other} {spread.randrange(9)}" for one in players for other in parts]
    return rows + spread.sample(likes, spread.randrange(len(likes) + 1))


# Whether a walk through the play finds somebody late, or in a scene twice.
def walk_fails(book, casting):
    for player in range(len(book[1])):
        dress = None
        free = clock = 0
        for name, length, pause, parts in book[2]:
            own = [part for part in parts if casting[part] == player]
            if len(own) > 1:
                return True
            for part in own:
                if dress not in (None, part) and clock - free < book[0][dress][2] + book[0][part][3]:
                    return True
                dress = part
            clock += length
            if own:
                free = clock
            clock += pause
    return False


class TestWhole(unittest.TestCase):
    def test_a_casting_without_faults_plays_and_leaves_time(self):
        plays = 0
        for rows in PLAYS:
            book = read_book(rows)
            for casting in all_castings(book):
                faults = faults_of(book, casting)
                clash = any([fault[0] == "clash" for fault in faults])
                hurries = [hurry for player in range(len(book[1])) for hurry in hurries_of(book, casting, player)]
                with self.subTest(rows=rows, casting=casting):
                    self.assertEqual(clash, walk_fails(book, casting))
                    self.assertEqual(clash, hurries != [])
                    voices = all([k is not None and part[1] in book[1][k][1] for part, k in zip(book[0], casting)])
                    self.assertEqual(faults == [], voices and not walk_fails(book, casting))
                if faults == []:
                    plays += 1
                    self.no_player_twice(book, casting)
        self.assertTrue(plays > 10)

    def no_player_twice(self, book, casting):
        for player in range(len(book[1])):
            scenes = [scene for scene, part in evening_of(book, casting, player)]
            self.assertEqual(scenes, sorted(set(scenes)))

    def test_the_fewest_are_told_with_groups_and_a_tree(self):
        fewest = []
        for rows in PLAYS:
            book = read_book(rows)
            many = len(book[0])
            clashes = clashes_of(book)
            k, groups = fewest_of(many, clashes)
            tree = tree_of(many, clashes)
            fewest.append(k)
            with self.subTest(rows=rows):
                self.assertIs(are_right(many, clashes, groups), True)
                self.assertEqual(len(set(groups)), k)
                self.assertIs(shows(many, clashes, k, tree), True)
                self.assertIs(shows(many, clashes, k + 1, tree), False)
                self.assertTrue(len(crowd_of(many, clashes)) <= k)
        self.assertEqual(fewest, [0, 1, 2, 3])

    def test_the_casting_of_least_price_plays_and_a_paper_shows_that_none_costs_less(self):
        spread = random.Random(3)
        found = []
        for rows in PLAYS + [drawn_rows(spread) for at in range(400)]:
            book = read_book(rows)
            castings = [casting for casting in all_castings(book) if faults_of(book, casting) == []]
            kept = spread.choice(all_castings(book))
            with self.subTest(rows=rows, kept=kept):
                self.least_and_its_paper(book, prices_of(book), castings)
                self.least_and_its_paper(book, prices_of_change(book, kept), castings)
            found.append(castings != [])
        self.assertTrue(found.count(True) > 100 and found.count(False) > 100)

    def least_and_its_paper(self, book, prices, castings):
        least = least_of(book, prices)
        paper = paper_of(book, prices)
        if castings == []:
            self.assertIsNone(least)
            self.assertIs(holds(book, prices, paper, None), True)
            return
        price, casting = least
        self.assertEqual(faults_of(book, casting), [])
        self.assertEqual(walk_fails(book, casting), False)
        self.assertEqual(price_of(prices, casting), price)
        self.assertEqual(min([price_of(prices, other) for other in castings]), price)
        self.assertIs(holds(book, prices, paper, price), True)
        self.assertIs(holds(book, prices, paper, price + 1), False)
        self.assertIs(holds(book, prices, paper, None), False)


if __name__ == "__main__":
    unittest.main()
