"""The desk: it keeps a book, and castings by names, and answers rows."""

from troupe.books import PARTS, PLAYERS, SCENES, are_unlike, is_amount, is_name, number_named, read_book, written_book
from troupe.castings import faults_of
from troupe.changes import changed, shift_of
from troupe.clashes import clashes_of, reason_of
from troupe.counts import casting_at, many_castings, number_of_casting
from troupe.errors import NoName, NoRow
from troupe.evenings import evening_of
from troupe.groups import fewest_of
from troupe.least import least_of
from troupe.nights import night_of, scene_of_night
from troupe.prices import prices_of, prices_of_change
from troupe.trees import tree_of

# Signs by their numbers; the percent sign is none of a text's.
BLANK = 32
PERCENT = 37
TILDE = 126


def is_text(thing):
    if not isinstance(thing, str):
        return False
    return all([BLANK <= ord(sign) <= TILDE and ord(sign) != PERCENT for sign in thing])


# What makes a row none is asked first, then what the names stand for; what the stages refuse comes behind both.


def ask_words(words, many):
    if len(words) != many:
        raise NoRow("words are too few or too many")


def ask_words_from(words, least):
    if len(words) < least:
        raise NoRow("words are too few")


def ask_unlike(words):
    if not are_unlike(words):
        raise NoRow("a word stands twice")


def ask_name(word):
    if not is_name(word):
        raise NoName("the word is no name")


def number_by(entries, name):
    number = number_named(entries, name)
    if number is None:
        raise NoName("nothing is kept by the name")
    return number


def numbers_by(entries, names):
    return [number_by(entries, name) for name in names]


def names_by(entries, numbers):
    return [entries[number][0] for number in numbers]


def casting_by(desk, name):
    if name not in desk.castings:
        raise NoName("no casting is kept by the name")
    casting = desk.castings[name]
    # Parts that were told behind the casting have nobody.
    return casting + [None] * (len(desk.book[PARTS]) - len(casting))


# Each teller gives the answer to a row of its kind.


def tell_row(desk, words):
    ask_words_from(words, 2)
    # A book is written in as many rows as it was told by, so the number of a wrong row behind them is the same.
    desk.book = read_book(written_book(desk.book) + [" ".join(words[1:])])
    return "ok"


def tell_cast(desk, words):
    ask_words(words, 2 + len(desk.book[PARTS]))
    ask_name(words[1])
    players = desk.book[PLAYERS]
    desk.castings[words[1]] = [None if word == "-" else number_by(players, word) for word in words[2:]]
    return "ok"


def tell_faults(desk, words):
    ask_words(words, 2)
    return str(len(faults_of(desk.book, casting_by(desk, words[1]))))


def tell_why(desk, words):
    ask_words(words, 3)
    ask_unlike(words[1:])
    i, j = numbers_by(desk.book[PARTS], words[1:])
    reason = reason_of(desk.book, i, j)
    if reason is None:
        return "no"
    if reason[0] == "scene":
        return " ".join(["scene"] + names_by(desk.book[SCENES], reason[1:]))
    names = names_by(desk.book[SCENES], reason[1:3])
    return " ".join(["change"] + names + [str(minutes) for minutes in reason[3:]])


def tell_fewest(desk, words):
    ask_words(words, 1)
    return str(fewest_of(len(desk.book[PARTS]), clashes_of(desk.book))[0])


def least_price(book, prices):
    least = least_of(book, prices)
    return "none" if least is None else str(least[0])


def tell_least(desk, words):
    ask_words(words, 1)
    return least_price(desk.book, prices_of(desk.book))


def tell_recast(desk, words):
    ask_words(words, 2)
    return least_price(desk.book, prices_of_change(desk.book, casting_by(desk, words[1])))


def tell_castings(desk, words):
    ask_words(words, 1)
    return str(many_castings(desk.book))


def keep_casting(desk, name, casting):
    desk.castings[name] = casting
    return " ".join(names_by(desk.book[PLAYERS], casting))


def tell_casting(desk, words):
    ask_words(words, 3)
    if not is_amount(words[1]):
        raise NoRow("the number is none")
    ask_name(words[2])
    return keep_casting(desk, words[2], casting_at(desk.book, int(words[1])))


def tell_number(desk, words):
    ask_words(words, 2)
    return str(number_of_casting(desk.book, casting_by(desk, words[1])))


def tell_keep(desk, words):
    ask_words(words, 2)
    ask_name(words[1])
    least = least_of(desk.book, prices_of(desk.book))
    return "none" if least is None else keep_casting(desk, words[1], least[1])


def tell_evening(desk, words):
    ask_words(words, 3)
    casting = casting_by(desk, words[1])
    evening = evening_of(desk.book, casting, number_by(desk.book[PLAYERS], words[2]))
    entrances = [desk.book[SCENES][scene][0] + " " + desk.book[PARTS][part][0] for scene, part in evening]
    return "; ".join(entrances) or "none"


def tree_words(parts, tree):
    if tree[0] == "crowd":
        return ["crowd", str(len(tree[1]))] + names_by(parts, tree[1])
    return ["pair"] + names_by(parts, tree[1:3]) + tree_words(parts, tree[3]) + tree_words(parts, tree[4])


def tell_tree(desk, words):
    ask_words(words, 1)
    parts = desk.book[PARTS]
    return " ".join(tree_words(parts, tree_of(len(parts), clashes_of(desk.book))))


def tell_away(desk, words):
    ask_words_from(words, 3)
    ask_unlike(words[2:])
    casting = casting_by(desk, words[1])
    night = night_of(desk.book, casting, numbers_by(desk.book[PLAYERS], words[2:]))
    lacking = [scene for scene, told in enumerate(night) if told[0] == "lacks"]
    return " ".join(names_by(desk.book[SCENES], lacking)) or "none"


def tell_lacks(desk, words):
    ask_words_from(words, 4)
    ask_unlike(words[3:])
    casting = casting_by(desk, words[1])
    scene = number_by(desk.book[SCENES], words[2])
    told = scene_of_night(desk.book, casting, numbers_by(desk.book[PLAYERS], words[3:]), scene)
    if told[0] == "covered":
        return "none"
    return " ".join(names_by(desk.book[PARTS], told[1]) + ["/"] + names_by(desk.book[PLAYERS], told[2]))


def keep_change(desk, change):
    book = changed(desk.book, change)
    come, gone = shift_of(desk.book, book)
    desk.book = book
    return " ".join([str(len(come)), str(len(gone))])


def tell_move(desk, words):
    ask_words(words, 3)
    at, to = numbers_by(desk.book[SCENES], words[1:])
    return keep_change(desk, ("move", at, to))


def tell_cut(desk, words):
    ask_words(words, 2)
    return keep_change(desk, ("cut", number_by(desk.book[SCENES], words[1])))


TELLERS = {
    "tell": tell_row,
    "cast": tell_cast,
    "faults": tell_faults,
    "why": tell_why,
    "fewest": tell_fewest,
    "least": tell_least,
    "recast": tell_recast,
    "castings": tell_castings,
    "casting": tell_casting,
    "number": tell_number,
    "keep": tell_keep,
    "evening": tell_evening,
    "tree": tell_tree,
    "away": tell_away,
    "lacks": tell_lacks,
    "move": tell_move,
    "cut": tell_cut,
}


class Desk:
    def __init__(self):
        self.book = read_book([])
        self.castings = {}

    def say(self, row):
        if not is_text(row):
            raise NoRow("the row is no text")
        words = row.split(" ")
        if words[0] not in TELLERS:
            raise NoRow("the row is of no kind")
        return TELLERS[words[0]](self, words)
