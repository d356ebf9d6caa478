import random
import re
import unittest

from troupe.books import read_book, written_book
from troupe.castings import faults_of
from troupe.changes import changed, shift_of
from troupe.clashes import clashes_of, reason_of
from troupe.counts import casting_at, many_castings, number_of_casting
from troupe.desk import Desk
from troupe.errors import NoBook, NoCasting, NoName, NoRow, TroupeError
from troupe.evenings import evening_of
from troupe.groups import fewest_of
from troupe.least import least_of
from troupe.nights import night_of
from troupe.prices import price_of, prices_of, prices_of_change
from troupe.trees import shows

# Clashes: king and maid in the hall, king and page by a change from gate to moor, fool and page from wood to gate.
# Ten castings play.
ROWS = [
    "part king b 3 4", "part maid s 1 2", "part fool t 2 1", "part page s 4 4",
    "player anna sb 10", "player bert bts 20", "player cara st 30", "player dora - 5",
    "scene hall 9 4 maid king", "scene wood 5 3 fool", "scene gate 8 6 page", "scene moor 2 9 king",
    "like anna king 7", "cover maid cara", "cover king dora",
]
CASTINGS = [
    "anna bert bert cara", "anna bert cara bert", "anna cara bert cara", "anna cara cara bert", "bert anna bert anna",
    "bert anna bert cara", "bert anna cara anna", "bert cara bert anna", "bert cara bert cara", "bert cara cara anna",
]


def desk_of(rows):
    desk = Desk()
    for row in rows:
        if desk.say("tell " + row) != "ok":
            raise AssertionError(row)
    return desk


# A desk with the play, x cast so that it plays, z so that it doesn't.
def play_desk():
    desk = desk_of(ROWS)
    desk.say("cast x bert anna bert anna")
    desk.say("cast z bert - anna anna")
    return desk


def answer_of(desk, row):
    try:
        return desk.say(row)
    except NoBook as error:
        return (NoBook, error.at)
    except TroupeError as error:
        return error.__class__


# All that a desk tells, by rows that change nothing.
QUESTIONS = ["fewest", "least", "castings", "tree", "tell ", "tell nothing", "cut nothing"]
QUESTIONS.extend([f"{kind} {name}" for kind in ["faults", "number", "recast"] for name in "vwxyz"])
QUESTIONS.extend([f"why {one} {other}" for one in ["king", "maid", "fool", "page", "duke"]
                  for other in ["king", "maid", "fool", "page", "duke"]])
QUESTIONS.extend([f"evening {name} {player}" for name in "vwxyz"
                  for player in ["anna", "bert", "cara", "dora", "emma"]])
QUESTIONS.extend([f"away {name} {away}" for name in "vwxyz" for away in ["anna", "bert dora", "cara anna bert"]])
QUESTIONS.extend([f"lacks {name} {scene} {away}" for name in "vwxyz" for scene in ["hall", "wood", "gate", "moor"]
                  for away in ["anna", "bert dora", "cara anna bert"]])


def all_answers(desk):
    return [answer_of(desk, row) for row in QUESTIONS]


# A tree of the words in front, and the words behind it.
def tree_read(words, names):
    if words[0] == "crowd":
        behind = 2 + int(words[1])
        return ("crowd", [names.index(word) for word in words[2:behind]]), words[behind:]
    if words[0] != "pair":
        raise AssertionError(words)
    one, rest = tree_read(words[3:], names)
    apart, rest = tree_read(rest, names)
    return ("pair", names.index(words[1]), names.index(words[2]), one, apart), rest


class DeskTest(unittest.TestCase):
    def said(self, desk, row, answer):
        got = desk.say(row)
        self.assertIs(got.__class__, str)
        self.assertEqual(got, answer, row)

    def refused(self, desk, row, refusal):
        with self.assertRaises(TroupeError, msg=row) as taken:
            desk.say(row)
        self.assertIs(taken.exception.__class__, refusal, row)

    def no_book(self, desk, row, at):
        with self.assertRaises(NoBook, msg=row) as taken:
            desk.say(row)
        self.assertEqual(repr(taken.exception.at), repr(at), row)

    # The tree written, read again, shows the k of the fewest and no more.
    def tree_walked(self, desk, book):
        names = [part[0] for part in book[0]]
        text = desk.say("tree")
        tree, rest = tree_read(text.split(" "), names)
        self.assertEqual(rest, [], text)
        k = int(desk.say("fewest"))
        self.assertIs(shows(len(names), clashes_of(book), k, tree), True, text)
        self.assertIs(shows(len(names), clashes_of(book), k + 1, tree), False, text)
        return tree


class TestTell(DeskTest):
    def test_each_kind_of_row(self):
        desk = Desk()
        for row in ROWS:
            self.said(desk, "tell " + row, "ok")

    def test_rows_that_are_none_of_a_book(self):
        desk = Desk()
        for at in range(len(ROWS) + 1):
            for row in ["", " ", "nothing", "part", "part king", " part duke s 1 1", "part duke s 1 1 ",
                        "part  duke s 1 1", "part duke s 01 1", "part duke s 1 1234567890", "part Duke s 1 1",
                        "like emma king 1", "cover duke anna", "scene sea 1 1 duke", "tell part duke s 1 1", "fewest"]:
                self.no_book(desk, "tell " + row, at)
            if at < len(ROWS):
                self.said(desk, "tell " + ROWS[at], "ok")
        for row in ROWS:
            self.no_book(desk, "tell " + row, len(ROWS))

    def test_what_is_behind_the_blank_is_the_row(self):
        desk = Desk()
        self.refused(desk, "tell", NoRow)
        self.no_book(desk, "tell ", 0)
        self.no_book(desk, "tell  part king b 3 4", 0)
        self.said(desk, "tell part king b 3 4", "ok")
        self.no_book(desk, "tell part king b 3 4", 1)
        self.no_book(desk, "tell ", 1)

    def test_rows_of_all_kinds_mixed(self):
        desk = desk_of(["scene sea 1 1", "player anna s 1", "part king s 0 0", "cover king anna", "scene hill 1 1 king",
                        "part maid s 0 0", "like anna maid 3"])
        self.said(desk, "least", "4")
        self.no_book(desk, "tell part king s 0 0", 7)
        self.said(desk, "tell part page s 0 0", "ok")
        self.no_book(desk, "tell part page s 0 0", 8)


class TestCast(DeskTest):
    def test_cast_and_faults(self):
        desk = desk_of(ROWS)
        self.said(desk, "cast x bert anna bert anna", "ok")
        self.said(desk, "faults x", "0")
        self.said(desk, "cast y - - - -", "ok")
        self.said(desk, "faults y", "4")
        self.said(desk, "cast z bert bert - anna", "ok")
        self.said(desk, "faults z", "2")
        self.said(desk, "cast w dora dora dora dora", "ok")
        self.said(desk, "faults w", "7")
        self.said(desk, "faults x", "0")

    def test_more_than_nine_faults(self):
        names = ["a", "b", "c", "d", "e"]
        desk = desk_of([f"part {name} s 0 0" for name in names] + ["player p - 1", "scene x 1 1 a b c d e"])
        self.said(desk, "cast x p p p p p", "ok")
        self.said(desk, "faults x", "15")

    def test_a_casting_told_anew(self):
        desk = desk_of(ROWS)
        self.said(desk, "cast x bert anna bert anna", "ok")
        self.said(desk, "cast y anna bert bert cara", "ok")
        self.said(desk, "number x", "4")
        self.said(desk, "cast x - - - -", "ok")
        self.said(desk, "faults x", "4")
        self.said(desk, "cast x bert cara cara anna", "ok")
        self.said(desk, "number x", "9")
        self.said(desk, "number y", "0")

    def test_names_of_one_to_eight_letters_and_of_other_things(self):
        desk = desk_of(ROWS)
        for name in ["a", "abcdefgh", "king", "anna", "hall", "cast", "none"]:
            self.said(desk, f"cast {name} bert anna bert anna", "ok")
            self.said(desk, f"number {name}", "4")

    def test_a_part_told_behind_has_nobody(self):
        desk = play_desk()
        self.said(desk, "faults z", "3")
        self.said(desk, "tell part duke b 0 0", "ok")
        self.said(desk, "faults x", "1")
        self.said(desk, "faults z", "4")
        self.refused(desk, "number x", NoCasting)
        self.refused(desk, "away x anna", NoCasting)
        self.refused(desk, "lacks x hall anna", NoCasting)
        self.said(desk, "evening x bert", "hall king; wood fool; moor king")
        self.said(desk, "recast x", "1")
        self.refused(desk, "cast x bert anna bert anna", NoRow)
        self.said(desk, "cast x bert anna bert anna anna", "ok")
        self.said(desk, "faults x", "0")
        self.said(desk, "tell part earl u 0 0", "ok")
        self.said(desk, "faults x", "1")
        self.said(desk, "faults z", "5")
        self.said(desk, "recast x", "none")

    def test_a_part_told_behind_a_casting_by_number_and_a_kept_one(self):
        desk = desk_of(ROWS)
        desk.say("casting 3 v")
        desk.say("keep w")
        self.said(desk, "tell part duke b 0 0", "ok")
        self.said(desk, "faults v", "1")
        self.said(desk, "faults w", "1")

    def test_other_rows_told_behind_leave_castings(self):
        desk = play_desk()
        for row in ["player emma u 1", "scene sea 1 1 king page", "like emma king 3", "cover fool emma"]:
            self.said(desk, "tell " + row, "ok")
            self.said(desk, "faults x", "0")
        self.said(desk, "tell scene lake 1 1 fool king", "ok")
        self.said(desk, "faults x", "1")

    def test_a_book_without_parts(self):
        desk = Desk()
        self.said(desk, "cast x", "ok")
        self.said(desk, "faults x", "0")
        self.said(desk, "number x", "0")
        self.refused(desk, "cast x ", NoRow)
        self.refused(desk, "cast x -", NoRow)
        self.said(desk, "tell part king b 3 4", "ok")
        self.said(desk, "faults x", "1")
        self.refused(desk, "cast x", NoRow)
        self.refused(desk, "cast x ", NoName)
        self.said(desk, "cast x -", "ok")


class TestQuestions(DeskTest):
    def test_why(self):
        desk = desk_of(ROWS)
        for one, other, answer in [("king", "maid", "scene hall"), ("king", "page", "change gate moor 6 8"),
                                   ("fool", "page", "change wood gate 3 6"), ("king", "fool", "no"),
                                   ("maid", "fool", "no"), ("maid", "page", "no")]:
            self.said(desk, f"why {one} {other}", answer)
            self.said(desk, f"why {other} {one}", answer)

    def test_fewest(self):
        self.said(desk_of(ROWS), "fewest", "2")
        self.said(Desk(), "fewest", "0")
        self.said(desk_of(ROWS[:1]), "fewest", "1")
        self.said(desk_of(ROWS[:4]), "fewest", "1")
        self.said(desk_of(ROWS + ["scene sea 1 1 king maid page"]), "fewest", "3")

    def test_least(self):
        self.said(desk_of(ROWS), "least", "30")
        self.said(desk_of(ROWS + ["like bert king 9", "like anna maid 8"]), "least", "47")
        self.said(Desk(), "least", "0")
        self.said(desk_of(ROWS[:4]), "least", "none")
        self.said(desk_of(ROWS + ["part duke u 0 0"]), "least", "none")

    def test_recast(self):
        desk = desk_of(ROWS)
        for casting in CASTINGS:
            self.said(desk, f"cast x {casting}", "ok")
            self.said(desk, "recast x", "0")
        for casting, answer in [("- - - -", "4"), ("bert bert bert anna", "1"), ("dora anna bert anna", "1"),
                                ("bert bert bert bert", "2"), ("anna anna cara anna", "1")]:
            self.said(desk, f"cast x {casting}", "ok")
            self.said(desk, "recast x", answer)
        desk = desk_of(ROWS[:5])
        desk.say("cast x anna anna anna anna")
        self.said(desk, "recast x", "none")
        desk = Desk()
        desk.say("cast x")
        self.said(desk, "recast x", "0")

    def test_castings_and_their_numbers(self):
        desk = desk_of(ROWS)
        self.said(desk, "castings", "10")
        for number, casting in enumerate(CASTINGS):
            self.said(desk, f"casting {number} x", casting)
            self.said(desk, "number x", str(number))
            self.said(desk, "faults x", "0")
            self.said(desk, f"cast y {casting}", "ok")
            self.said(desk, "number y", str(number))
        self.refused(desk, "casting 10 x", NoCasting)
        self.refused(desk, "casting 999999999 x", NoCasting)
        self.said(desk, "number x", "9")

    def test_no_castings(self):
        desk = desk_of(ROWS[:4])
        self.said(desk, "castings", "0")
        self.refused(desk, "casting 0 x", NoCasting)
        self.refused(desk, "faults x", NoName)
        desk.say("cast x - - - -")
        self.refused(desk, "number x", NoCasting)

    def test_castings_without_parts(self):
        desk = desk_of(["player anna s 1"])
        self.said(desk, "castings", "1")
        self.said(desk, "casting 0 x", "")
        self.said(desk, "number x", "0")
        self.refused(desk, "casting 1 y", NoCasting)
        self.said(desk, "keep y", "")
        self.said(desk, "faults y", "0")

    def test_many_castings(self):
        parts = [f"part {name} s 0 0" for name in "abcdefgh"]
        desk = desk_of(parts + [f"player {name} s 1" for name in "uvwxyz"])
        self.said(desk, "castings", "1679616")
        self.said(desk, "casting 1679615 x", "z z z z z z z z")
        self.said(desk, "casting 1 y", "u u u u u u u v")
        self.said(desk, "number x", "1679615")

    def test_keep(self):
        desk = desk_of(ROWS)
        self.said(desk, "cast x - - - -", "ok")
        self.said(desk, "keep x", "bert anna bert anna")
        self.said(desk, "number x", "4")
        self.said(desk, "keep y", "bert anna bert anna")
        for row in ["like bert king 100", "like cara maid 5", "like cara page 1"]:
            self.said(desk, "tell " + row, "ok")
        self.said(desk, "least", "67")
        self.said(desk, "keep y", "anna bert cara bert")
        self.said(desk, "number y", "1")
        self.said(desk, "number x", "4")

    def test_keep_where_none_plays(self):
        desk = desk_of(ROWS[:5])
        self.said(desk, "cast x anna anna - -", "ok")
        self.said(desk, "faults x", "2")
        self.said(desk, "keep x", "none")
        self.said(desk, "faults x", "2")
        self.said(desk, "keep y", "none")
        self.refused(desk, "faults y", NoName)

    def test_evening(self):
        desk = play_desk()
        self.said(desk, "evening x bert", "hall king; wood fool; moor king")
        self.said(desk, "evening x anna", "hall maid; gate page")
        self.said(desk, "evening x cara", "none")
        self.said(desk, "evening z dora", "none")
        self.said(desk, "evening z anna", "wood fool; gate page")
        desk.say("cast x anna anna - -")
        self.said(desk, "evening x anna", "hall maid; hall king; moor king")

    def test_tree(self):
        self.assertEqual(self.tree_walked(desk_of(ROWS), read_book(ROWS))[0], "crowd")
        self.said(Desk(), "tree", "crowd 0")
        self.said(desk_of(ROWS[:1]), "tree", "crowd 1 king")
        # Each part meets the next one around: no crowd shows that three are needed.
        rows = [f"part {name} s 0 0" for name in "abcde"]
        rows.extend([f"scene {one}{other} 1 1 {one} {other}" for one, other in zip("abcde", "bcdea")])
        desk = desk_of(rows)
        self.said(desk, "fewest", "3")
        self.assertEqual(self.tree_walked(desk, read_book(rows))[0], "pair")

    def test_trees_of_drawn_books(self):
        spread = random.Random(25)
        kinds = []
        for at in range(300):
            names = "abcdefgh"[:spread.randrange(9)]
            pairs = [(one, other) for one in names for other in names if one < other]
            rows = [f"part {name} s 0 0" for name in names]
            rows.extend([f"scene {one}{other} 1 1 {other} {one}"
                         for one, other in spread.sample(pairs, min(spread.randrange(16), len(pairs)))])
            kinds.append(self.tree_walked(desk_of(rows), read_book(rows))[0])
        self.assertTrue(kinds.count("pair") > 3 and kinds.count("crowd") > 50, kinds.count("pair"))

    def test_away(self):
        desk = play_desk()
        for away, answer in [("anna", "gate"), ("bert", "wood"), ("cara", "none"), ("dora", "none"),
                             ("anna bert", "wood gate"), ("bert anna", "wood gate"), ("anna cara", "hall gate"),
                             ("dora bert", "hall wood moor"), ("dora cara bert anna", "hall wood gate moor"),
                             ("cara dora", "none")]:
            self.said(desk, f"away x {away}", answer)
        for away in ["anna", "cara", "anna bert cara dora"]:
            self.refused(desk, f"away z {away}", NoCasting)

    def test_lacks(self):
        desk = play_desk()
        for scene, away, answer in [("gate", "anna", "page /"), ("hall", "anna", "none"), ("wood", "bert", "fool /"),
                                    ("wood", "anna", "none"), ("hall", "anna cara", "maid /"),
                                    ("hall", "dora bert", "king /"), ("moor", "bert dora", "king /")]:
            self.said(desk, f"lacks x {scene} {away}", answer)
        for scene in ["hall", "wood", "gate", "moor"]:
            self.said(desk, f"lacks x {scene} cara dora", "none")
            self.refused(desk, f"lacks z {scene} cara", NoCasting)

    def test_lacks_with_players_who_may_cover(self):
        rows = ["part a s 0 0", "part b s 0 0", "part c s 0 0", "scene x 1 1 c b a"]
        rows.extend([f"player {name} s 1" for name in "pqrst"])
        rows.extend(["cover c t", "cover b t", "cover c s", "cover b s", "cover a t", "cover a s"])
        desk = desk_of(rows)
        desk.say("cast k p q r")
        self.said(desk, "lacks k x p q r", "a b c / s t")
        self.said(desk, "lacks k x r p q", "a b c / s t")
        self.said(desk, "lacks k x p r", "none")
        self.said(desk, "lacks k x p r t", "a c / s")

    def test_a_play_without_scenes(self):
        desk = desk_of(["part king b 3 4", "player anna b 1"])
        desk.say("cast x anna")
        self.said(desk, "away x anna", "none")
        self.said(desk, "evening x anna", "none")
        self.refused(desk, "lacks x hall anna", NoName)


class TestChanges(DeskTest):
    def test_move(self):
        desk = desk_of(ROWS)
        self.said(desk, "move gate hall", "1 1")
        self.said(desk, "why fool king", "change wood moor 3 6")
        self.said(desk, "why fool page", "no")
        self.said(desk, "why king page", "change gate hall 6 8")
        desk = desk_of(ROWS)
        self.said(desk, "move hall moor", "0 0")
        self.said(desk, "why king maid", "scene hall")
        # The order is now wood, gate, moor, hall.
        self.said(desk, "why page king", "change gate moor 6 8")
        self.said(desk, "cut moor", "0 0")
        self.said(desk, "why page king", "change gate hall 6 8")

    def test_move_to_the_number_that_the_other_has(self):
        order = ["hall", "wood", "gate", "moor"]
        for one in order:
            for other in order:
                wanted = [name for name in order if name != one]
                wanted.insert(order.index(other), one)
                rows = dict([(row.split(" ")[1], row) for row in ROWS[8:12]])
                book = read_book(ROWS[:8] + [rows[name] for name in wanted] + ROWS[12:])
                come, gone = shift_of(read_book(ROWS), book)
                desk = desk_of(ROWS)
                self.said(desk, f"move {one} {other}", f"{len(come)} {len(gone)}")
                # The evening of who has all parts tells the order of the scenes.
                desk.say("cast x anna anna anna anna")
                self.said(desk, "evening x anna", "; ".join(
                    [scene[0] + " " + book[0][part][0] for scene in book[2] for part in scene[3]]))

    def test_move_to_itself(self):
        desk = play_desk()
        before = all_answers(desk)
        for name in ["hall", "wood", "gate", "moor"]:
            self.said(desk, f"move {name} {name}", "0 0")
        self.assertEqual(all_answers(desk), before)

    def test_cut(self):
        desk = desk_of(ROWS)
        self.said(desk, "cut wood", "1 1")
        self.said(desk, "why maid page", "change hall gate 4 5")
        self.said(desk, "why fool page", "no")
        self.refused(desk, "cut wood", NoName)
        self.refused(desk, "move wood hall", NoName)
        desk = desk_of(ROWS)
        self.said(desk, "cut moor", "0 1")
        self.said(desk, "cut gate", "0 1")
        self.said(desk, "cut hall", "0 1")
        self.said(desk, "cut wood", "0 0")
        self.said(desk, "fewest", "1")
        self.refused(desk, "cut wood", NoName)

    def test_a_scene_that_was_cut_may_be_told_anew(self):
        desk = desk_of(ROWS)
        desk.say("cut hall")
        self.said(desk, "tell scene hall 9 4 maid fool", "ok")
        self.said(desk, "why maid fool", "scene hall")

    def test_castings_stand(self):
        desk = play_desk()
        desk.say("cut moor")
        self.said(desk, "faults x", "0")
        self.said(desk, "faults z", "3")
        self.said(desk, "evening x bert", "hall king; wood fool")
        desk.say("cut wood")
        self.said(desk, "faults x", "1")
        self.said(desk, "faults z", "2")

    def test_no_book_by_the_rows_that_stand(self):
        desk = desk_of(ROWS)
        self.no_book(desk, "tell nothing", 15)
        desk.say("move hall wood")
        self.no_book(desk, "tell nothing", 15)
        desk.say("cut hall")
        self.no_book(desk, "tell nothing", 14)
        self.said(desk, "tell part duke s 1 1", "ok")
        self.no_book(desk, "tell part duke s 1 1", 15)
        desk.say("cut moor")
        desk.say("cut gate")
        self.no_book(desk, "tell scene sea 1 1 earl", 13)
        self.said(desk, "tell scene sea 1 1 duke", "ok")
        self.no_book(desk, "tell scene sea 1 1 duke", 14)
        self.no_book(desk, "tell ", 14)

    def test_scenes_told_behind_a_change(self):
        desk = desk_of(ROWS)
        desk.say("move moor hall")
        self.said(desk, "tell scene sea 1 1 page", "ok")
        desk.say("cast x anna anna anna anna")
        self.said(desk, "evening x anna",
                  "moor king; hall maid; hall king; wood fool; gate page; sea page")


# Rows told to the desk of play_desk, with what refuses them.
NO_ROWS = """
| |  |tell|Tell part duke s 1 1|tel|tell_|sing|sing x|fewest?|Fewest|part duke s 1 1|x|king|-|0
 fewest|fewest |fewest  |fewest x|least |least x| least|castings |castings x|castings 1|tree |tree x|tree 1
faults|faults x z|faults  x|faults x | faults x|recast|recast x z|recast  x|recast x |number|number x x|number  x
keep|keep v w|keep  v|keep v |casting|casting 0|casting v|casting |casting 0 v w|casting 0 v |casting  0 v|casting 0  v
casting v 0|casting 00 v|casting 01 v|casting 000000001 v|casting 1234567890 v|casting 0000000000 v|casting -1 v
casting +1 v|casting  v|casting 1.0 v|casting 1a v|casting - v|casting one v|casting 1, v|casting -0 v
why|why king|why |why king maid fool|why king king|why  king maid|why king  maid|why king maid |why  |why duke duke
evening|evening x|evening |evening x anna bert|evening  x anna|evening x  anna|evening x anna | evening x anna
away|away x|away |away x anna anna|away x anna bert anna|away x emma emma|away x  |away x anna bert  | away x anna
lacks|lacks x|lacks x hall|lacks x |lacks x hall anna anna|lacks x hall anna bert bert|lacks x hall  |lacks  x
move|move hall|move |move hall wood gate|move  hall wood|move hall  wood|move hall wood |cut|cut hall wood|cut  hall
cut hall | cut hall|cast|cast v|cast |cast v anna|cast v anna bert cara|cast v anna bert cara dora anna|cast v - - -
cast v - - - - |cast v  - - - -|cast  v - - - -|cast v - - - - -| cast v - - - -|cast v -  -|cast v ----
"""
NO_NAMES = """
faults y|faults |faults king|faults anna|faults hall|faults X|faults abcdefghi|faults x1|faults -|faults 0
recast y|recast |recast king|recast X|number y|number |number bert|number X|keep X|keep |keep abcdefghi|keep -|keep x1
keep /|casting 0 X|casting 0 |casting 0 abcdefghi|casting 0 -|casting 0 0|casting 9 x;
why king duke|why duke king|why king anna|why king hall|why x king|why  king|why king |why king King|why - king
evening y anna|evening x king|evening x emma|evening x |evening  anna|evening king anna|evening x hall|evening anna x
away y anna|away x emma|away x anna emma|away x emma anna|away x |away x anna |away x  anna|away  anna|away x king
away x -|away anna bert|away x anna  bert|away king anna|lacks y hall anna|lacks x king anna|lacks x sea anna
lacks x hall emma|lacks x hall |lacks x  anna|lacks  hall anna|lacks x hall anna emma|lacks x hall  anna
lacks hall x anna|lacks x anna bert|lacks x hall king|move hall |move hall sea|move sea hall|move hall king|move  hall
move  |move sea sea|move hall 2|move 0 1|cut sea|cut king|cut |cut x|cut 0|cut Hall
cast V - - - -|cast  - - - -|cast v emma - - -|cast v - - - emma|cast v anna bert  cara|cast v -- - - -
cast v king - - -
cast abcdefghi - - - -|cast - - - - -|cast v    |cast v anna bert cara Dora|cast v 0 1 2 3|cast v - - - |cast x1 - - - -
"""
NO_CASTINGS = """
casting 10 v|casting 11 x|casting 999999999 v|number z|away z anna|away z anna bert cara dora|lacks z hall anna
lacks z moor dora cara
"""
# Two wrongs in a row, and what goes first.
TWO_WRONGS = [
    ("casting 10 X", NoName), ("casting 10 ", NoName), ("casting 999999999 abcdefghi", NoName),
    ("away z emma", NoName), ("away z anna emma", NoName), ("away z ", NoName), ("away z anna ", NoName),
    ("lacks z sea anna", NoName), ("lacks z hall emma", NoName), ("lacks z hall ", NoName), ("lacks z  anna", NoName),
    ("lacks y sea emma", NoName), ("evening y emma", NoName), ("why duke earl", NoName), ("move sea lake", NoName),
    ("casting 010 X", NoRow), ("casting 1234567890 X", NoRow), ("casting 10 v w", NoRow), ("casting 010 v", NoRow),
    ("casting 01 ", NoRow), ("casting x X", NoRow), ("number z z", NoRow), ("number y z", NoRow), ("keep X x", NoRow),
    ("away z anna anna", NoRow), ("away y emma emma", NoRow), ("away z", NoRow), ("away y", NoRow), ("away X", NoRow),
    ("away y emma anna emma", NoRow), ("lacks z hall anna anna", NoRow), ("lacks y sea emma emma", NoRow),
    ("lacks z hall", NoRow), ("lacks y sea", NoRow), ("why duke duke", NoRow), ("why X X", NoRow), ("why - -", NoRow),
    ("why duke earl king", NoRow), ("cast X emma", NoRow), ("cast x emma emma emma", NoRow), ("cast X", NoRow),
    ("cut sea lake", NoRow), ("move sea", NoRow), ("evening y", NoRow), ("faults y y", NoRow), ("recast y y", NoRow),
    ("sing y emma", NoRow), (" number z", NoRow), ("evening y emma ", NoRow),
]
NO_TEXTS = [
    None, True, False, 0, 1, -1, 10 ** 19, 1.5, [], ["fewest"], ("fewest",), {}, {"fewest": 1}, {"fewest"}, b"fewest",
    object(), Desk, Desk(), str, len, "fewest\n", "\nfewest", "fewest\t", "fe\twest", "tell \t", "tell \n", "\n", "\t",
    "tell part duke s 1 1\n", "tell part duke\ts 1 1", "faults x\n", "faults\tx", "keep v\n", "cut hall\n",
    "cast v - - - -\n", "casting 0\n v", "faults \n", "away x anna\tbert", "tell\npart duke s 1 1",
]


def rows_of(text):
    return [row for line in text.split("\n")[1:-1] for row in line.split("|")]


class TestRefused(DeskTest):
    # A row is refused, and each question is answered as ahead of it.
    def refused_without_change(self, rows, refusal):
        desk = play_desk()
        before = all_answers(desk)
        for row in rows:
            self.refused(desk, row, refusal)
            self.assertEqual(all_answers(desk), before, row)

    def test_rows_that_are_none(self):
        self.refused_without_change(rows_of(NO_ROWS), NoRow)

    def test_names_that_are_none_or_by_which_nothing_is_kept(self):
        self.refused_without_change(rows_of(NO_NAMES), NoName)

    def test_castings_that_are_none(self):
        self.refused_without_change(rows_of(NO_CASTINGS), NoCasting)

    def test_two_wrongs(self):
        for row, refusal in TWO_WRONGS:
            self.refused_without_change([row], refusal)

    def test_things_that_are_no_texts(self):
        self.refused_without_change(NO_TEXTS, NoRow)

    def test_rows_of_no_book(self):
        desk = play_desk()
        before = all_answers(desk)
        for row in ["", "part king b 1 1", "part duke b 1", "scene sea 1 1 duke", "like anna king 9",
                    "player bert - 0"]:
            self.no_book(desk, "tell " + row, len(ROWS))
            self.assertEqual(all_answers(desk), before)

    def test_rows_at_a_new_desk(self):
        desk = Desk()
        before = all_answers(desk)
        for row in ["faults x", "recast x", "number x", "evening x anna", "why king maid", "away x anna", "cut hall",
                    "lacks x hall anna", "move hall hall", "keep X", "casting 0 X", "cast X"]:
            self.refused(desk, row, NoName)
        for row in ["cast x -", "cast x anna", "cast", "", "sing", "why king king"]:
            self.refused(desk, row, NoRow)
        for row in ["casting 1 x", "casting 999999999 x"]:
            self.refused(desk, row, NoCasting)
        self.no_book(desk, "tell ", 0)
        self.assertEqual(all_answers(desk), before)

    def test_a_list_of_the_desk_s_own_is_not_handed_out(self):
        desk = play_desk()
        before = all_answers(desk)
        for row in QUESTIONS:
            answer = answer_of(desk, row)
            self.assertTrue(isinstance(answer, (str, type)) or answer[0] is NoBook, row)
        self.assertEqual(all_answers(desk), before)


# A second reading of the document, by patterns: it keeps rows and castings of its own, and tells what a desk is to say.
class Told:
    PATTERNS = [
        ("tell", "tell (.*)"), ("faults", "faults (W)"), ("why", "why (W) (W)"), ("fewest", "fewest"),
        ("least", "least"), ("recast", "recast (W)"), ("castings", "castings"), ("number", "number (W)"),
        ("casting", "casting (0|[1-9][0-9]{0,8}) (W)"), ("keep", "keep (W)"), ("evening", "evening (W) (W)"),
        ("tree", "tree"), ("away", "away (W)((?: W)+)"), ("lacks", "lacks (W) (W)((?: W)+)"), ("move", "move (W) (W)"),
        ("cut", "cut (W)"),
    ]

    def __init__(self):
        self.rows = []
        self.castings = {}

    def book(self):
        return read_book(self.rows)

    def read(self, row):
        patterns = self.PATTERNS + [("cast", "cast (W)((?: W){%d})" % len(self.book()[0]))]
        for kind, pattern in patterns:
            found = re.fullmatch(pattern.replace("W", "[^ ]*"), row)
            if found:
                return kind, list(found.groups())
        return None, []

    def number(self, place, name):
        names = [entry[0] for entry in self.book()[place]]
        if name not in names:
            raise NoName
        return names.index(name)

    def casting(self, name):
        if name not in self.castings:
            raise NoName
        named = self.castings[name] + ["-"] * (len(self.book()[0]) - len(self.castings[name]))
        return [None if word == "-" else self.number(1, word) for word in named]

    # What the row is to be answered by: a text, or a function that looks at the text.
    def answer(self, row):
        kind, words = self.read(row)
        if kind is None:
            raise NoRow
        return getattr(self, "say_" + kind)(*words)

    def say_tell(self, row):
        read_book(self.rows + [row])
        self.rows.append(row)
        return "ok"

    def say_cast(self, name, players):
        if not re.fullmatch("[a-z]{1,8}", name):
            raise NoName
        words = players.split(" ")[1:]
        for word in words:
            if word != "-":
                self.number(1, word)
        self.castings[name] = words
        return "ok"

    def say_faults(self, name):
        return str(len(faults_of(self.book(), self.casting(name))))

    def say_why(self, one, other):
        if one == other:
            raise NoRow
        reason = reason_of(self.book(), self.number(0, one), self.number(0, other))
        if reason is None:
            return "no"
        scenes = self.book()[2]
        if reason[0] == "scene":
            return f"scene {scenes[reason[1]][0]}"
        return f"change {scenes[reason[1]][0]} {scenes[reason[2]][0]} {reason[3]} {reason[4]}"

    def say_fewest(self):
        return str(fewest_of(len(self.book()[0]), clashes_of(self.book()))[0])

    def price(self, prices):
        least = least_of(self.book(), prices)
        return str(least[0]) if least else "none"

    def say_least(self):
        return self.price(prices_of(self.book()))

    def say_recast(self, name):
        return self.price(prices_of_change(self.book(), self.casting(name)))

    def say_castings(self):
        return str(many_castings(self.book()))

    def say_casting(self, number, name):
        if not re.fullmatch("[a-z]{1,8}", name):
            raise NoName
        self.castings[name] = [self.book()[1][player][0] for player in casting_at(self.book(), int(number))]
        return " ".join(self.castings[name])

    def say_number(self, name):
        return str(number_of_casting(self.book(), self.casting(name)))

    def say_keep(self, name):
        if not re.fullmatch("[a-z]{1,8}", name):
            raise NoName
        book = self.book()
        least = least_of(book, prices_of(book))
        if least is None:
            return "none"

        def is_right(text):
            self.castings[name] = text.split(" ") if text else []
            casting = self.casting(name)
            return faults_of(book, casting) == [] and price_of(prices_of(book), casting) == least[0]
        return is_right

    def say_evening(self, name, player):
        book = self.book()
        entrances = evening_of(book, self.casting(name), self.number(1, player))
        return "; ".join([f"{book[2][scene][0]} {book[0][part][0]}" for scene, part in entrances]) or "none"

    def say_tree(self):
        names = [part[0] for part in self.book()[0]]
        k = int(self.say_fewest())

        def is_right(text):
            tree, rest = tree_read(text.split(" "), names)
            return rest == [] and shows(len(names), clashes_of(self.book()), k, tree)
        return is_right

    def night(self, name, players):
        words = players.split(" ")[1:]
        casting = self.casting(name)
        return night_of(self.book(), casting, [self.number(1, word) for word in words])

    def say_away(self, name, players):
        words = players.split(" ")[1:]
        if len(set(words)) < len(words):
            raise NoRow
        night = self.night(name, players)
        return " ".join([self.book()[2][at][0] for at, told in enumerate(night) if told[0] == "lacks"]) or "none"

    def say_lacks(self, name, scene, players):
        words = players.split(" ")[1:]
        if len(set(words)) < len(words):
            raise NoRow
        at = self.number(2, scene)
        if self.night(name, players)[at][0] == "covered":
            return "none"
        book = self.book()
        casting = self.casting(name)
        away = [self.number(1, word) for word in words]

        def is_right(text):
            one, other = re.fullmatch("(.*) /(.*)", text).groups()
            parts = [self.number(0, word) for word in one.split(" ")]
            covers = [self.number(1, word) for word in other.split(" ")[1:]]
            inside = [casting[part] for part in book[2][at][3]]
            may = {k for part, k in book[4] if part in parts and k not in away and k not in inside}
            gaps = [part for part in sorted(book[2][at][3]) if casting[part] in away and part in parts]
            return parts == gaps and covers == sorted(may) and len(covers) < len(parts)
        return is_right

    def change(self, change):
        book = self.book()
        new = changed(book, change)
        come, gone = shift_of(book, new)
        self.rows = written_book(new)
        return f"{len(come)} {len(gone)}"

    def say_move(self, scene, other):
        return self.change(("move", self.number(2, scene), self.number(2, other)))

    def say_cut(self, scene):
        return self.change(("cut", self.number(2, scene)))


class Session:
    def __init__(self, spread):
        self.spread = spread
        self.parts = ["king", "maid", "fool"]
        self.players = ["anna", "bert", "cara"]
        self.scenes = ["hall", "wood", "gate"]
        self.castings = ["x", "y"]

    def word(self, names):
        odd = self.spread.randrange(40)
        return ["", "King", "-", "0", "abcdefghi"][odd] if odd < 5 else self.spread.choice(names)

    def words(self, names, most):
        return [self.word(names) for at in range(self.spread.randrange(most + 1))]

    def tell(self):
        spread = self.spread
        kind = spread.choice(["part", "player", "scene", "scene", "like", "cover"])
        amount = str(spread.choice([0, 1, 2, 3, 12, "01"]))
        if kind == "part":
            return ["part", self.word(self.parts), spread.choice("sst"), amount, str(spread.randrange(4))]
        if kind == "player":
            return ["player", self.word(self.players), spread.choice(["s", "st", "ts", "-"]), amount]
        if kind == "scene":
            return ["scene", self.word(self.scenes), amount, str(spread.randrange(4))] + self.words(self.parts, 2)
        if kind == "like":
            return ["like", self.word(self.players), self.word(self.parts), amount]
        return ["cover", self.word(self.parts), self.word(self.players)]

    def rest(self, kind):
        if kind == "tell":
            return self.tell()
        if kind == "cast":
            return [self.word(self.castings)] + self.words(self.players + ["-"], 3)
        if kind == "casting":
            return [self.word(["0", "1", "2", "3", "5", "8"]), self.word(self.castings)]
        if kind == "away":
            return [self.word(self.castings)] + self.words(self.players, 2)
        if kind == "lacks":
            return [self.word(self.castings), self.word(self.scenes)] + self.words(self.players, 2)
        if kind == "evening":
            return [self.word(self.castings), self.word(self.players)]
        if kind == "why":
            return [self.word(self.parts), self.word(self.parts)]
        if kind in ("move", "cut"):
            return [self.word(self.scenes) for at in range(2 if kind == "move" else 1)]
        if kind in ("faults", "recast", "number", "keep"):
            return [self.word(self.castings)]
        return []

    def row(self):
        kinds = ["tell"] * 6 + ["cast"] * 3 + ["casting"] * 2 + ["away"] * 4 + ["lacks"] * 6
        kinds += ["faults", "why", "fewest", "least", "recast", "castings", "number", "keep", "evening", "tree", "move",
                  "cut"]
        kind = self.spread.choice(kinds)
        words = [kind] + self.rest(kind)
        if self.spread.randrange(30) == 0:
            words.insert(self.spread.randrange(len(words) + 1), "")
        return " ".join(words)


class TestSessions(DeskTest):
    def follow(self, desk, told, row):
        try:
            wanted = told.answer(row)
        except NoBook as error:
            self.no_book(desk, row, error.at)
            return NoBook
        except TroupeError as error:
            self.refused(desk, row, error.__class__)
            return error.__class__
        if isinstance(wanted, str):
            self.said(desk, row, wanted)
            return "none" if wanted == "none" else "told"
        self.assertTrue(wanted(desk.say(row)), row)
        return "right"

    def test_drawn_sessions(self):
        found = {}
        for seed in range(60):
            session = Session(random.Random(seed))
            desk = Desk()
            told = Told()
            for at in range(150):
                row = session.row()
                with self.subTest(seed=seed, at=at, row=row):
                    key = (row.split(" ")[0], self.follow(desk, told, row))
                found[key] = found.get(key, 0) + 1
        for key in [("tell", NoBook), ("tell", "told"), ("cast", NoRow), ("cast", NoName), ("cast", "told"),
                    ("casting", NoCasting), ("casting", NoName), ("casting", NoRow), ("casting", "told"),
                    ("number", NoCasting), ("number", "told"), ("keep", "right"), ("keep", "none"), ("tree", "right"),
                    ("away", NoRow), ("away", NoName), ("away", NoCasting), ("away", "told"), ("away", "none"),
                    ("lacks", NoRow), ("lacks", NoName), ("lacks", NoCasting), ("lacks", "right"), ("lacks", "none"),
                    ("move", NoName), ("move", "told"), ("cut", NoName), ("cut", "told"), ("why", NoRow),
                    ("why", NoName), ("why", "told"), ("evening", "told"), ("evening", "none"), ("least", "told"),
                    ("least", "none"), ("recast", "told"), ("recast", "none"), ("faults", "told"), ("fewest", "told")]:
            self.assertTrue(found.get(key, 0) > 4, key)

    def test_two_desks_know_nothing_of_one_another(self):
        desks = [Desk(), Desk(), Desk()]
        models = [Told(), Told(), Told()]
        sessions = [Session(random.Random(100 + at)) for at in range(3)]
        for at in range(300):
            for desk, told, session in zip(desks, models, sessions):
                self.follow(desk, told, session.row())
        one = play_desk()
        other = Desk()
        self.refused(other, "faults x", NoName)
        self.said(other, "fewest", "0")
        self.said(other, "cast x", "ok")
        self.said(other, "castings", "1")
        self.said(one, "faults x", "0")
        self.said(one, "castings", "10")
        self.no_book(other, "tell ", 0)
        self.no_book(one, "tell ", 15)


if __name__ == "__main__":
    unittest.main()
