"""Books: read from rows to a tuple, and written as rows again."""

from troupe.errors import NoBook

LETTERS = "abcdefghijklmnopqrstuvwxyz"
FIGURES = "0123456789"

# The places of a book's tuple.
PARTS = 0
PLAYERS = 1
SCENES = 2
LIKES = 3
COVERS = 4


def consists_of(signs, word):
    return all([sign in signs for sign in word])


def are_unlike(things):
    return len(set(things)) == len(things)


def is_name(word):
    return 1 <= len(word) <= 8 and consists_of(LETTERS, word)


def is_amount(word):
    if not 1 <= len(word) <= 9 or not consists_of(FIGURES, word):
        return False
    return word == "0" or word[0] != "0"


def is_voice(word):
    return len(word) == 1 and word in LETTERS


def are_voices(word):
    if word == "-":
        return True
    return word != "" and consists_of(LETTERS, word) and are_unlike(word)


def number_named(entries, name):
    for number, entry in enumerate(entries):
        if entry[0] == name:
            return number
    return None


def is_new_name(entries, word):
    return is_name(word) and number_named(entries, word) is None


# Each reader gives the tuple that a row of its kind adds to the book of the rows ahead, or None for a wrong row.


def part_read(book, words):
    if len(words) != 5 or not is_new_name(book[PARTS], words[1]):
        return None
    if not is_voice(words[2]) or not is_amount(words[3]) or not is_amount(words[4]):
        return None
    return (words[1], words[2], int(words[3]), int(words[4]))


def player_read(book, words):
    if len(words) != 4 or not is_new_name(book[PLAYERS], words[1]):
        return None
    if not are_voices(words[2]) or not is_amount(words[3]):
        return None
    return (words[1], "" if words[2] == "-" else words[2], int(words[3]))


def scene_read(book, words):
    if len(words) < 4 or not is_new_name(book[SCENES], words[1]):
        return None
    if not is_amount(words[2]) or not is_amount(words[3]):
        return None
    numbers = [number_named(book[PARTS], word) for word in words[4:]]
    if None in numbers or not are_unlike(numbers):
        return None
    return (words[1], int(words[2]), int(words[3]), tuple(numbers))


def like_read(book, words):
    if len(words) != 4 or not is_amount(words[3]):
        return None
    player = number_named(book[PLAYERS], words[1])
    part = number_named(book[PARTS], words[2])
    if player is None or part is None:
        return None
    # A second price for both is wrong even where it is the same.
    if (player, part) in [like[:2] for like in book[LIKES]]:
        return None
    return (player, part, int(words[3]))


def cover_read(book, words):
    if len(words) != 3:
        return None
    part = number_named(book[PARTS], words[1])
    player = number_named(book[PLAYERS], words[2])
    if part is None or player is None or (part, player) in book[COVERS]:
        return None
    return (part, player)


# Kinds and readers stand in the order of the places.
KINDS = ("part", "player", "scene", "like", "cover")
READERS = (part_read, player_read, scene_read, like_read, cover_read)


def with_row(book, row):
    words = row.split(" ")
    if words[0] not in KINDS:
        return None
    place = KINDS.index(words[0])
    entry = READERS[place](book, words)
    if entry is None:
        return None
    return book[:place] + (book[place] + (entry,),) + book[place + 1:]


def read_book(rows):
    book = ((), (), (), (), ())
    for at, row in enumerate(rows):
        book = with_row(book, row)
        if book is None:
            raise NoBook(at)
    return book


def part_written(part):
    return " ".join(["part", part[0], part[1], str(part[2]), str(part[3])])


def player_written(player):
    return " ".join(["player", player[0], player[1] or "-", str(player[2])])


def scene_written(book, scene):
    names = [book[PARTS][number][0] for number in scene[3]]
    return " ".join(["scene", scene[0], str(scene[1]), str(scene[2])] + names)


def like_written(book, like):
    return " ".join(["like", book[PLAYERS][like[0]][0], book[PARTS][like[1]][0], str(like[2])])


def cover_written(book, cover):
    return " ".join(["cover", book[PARTS][cover[0]][0], book[PLAYERS][cover[1]][0]])


def written_book(book):
    rows = [part_written(part) for part in book[PARTS]]
    rows.extend([player_written(player) for player in book[PLAYERS]])
    rows.extend([scene_written(book, scene) for scene in book[SCENES]])
    rows.extend([like_written(book, like) for like in book[LIKES]])
    rows.extend([cover_written(book, cover) for cover in book[COVERS]])
    return rows
