"""Changes of a play's scenes, the ways back, and what they do to clashes and castings."""

from troupe.books import PARTS, SCENES, are_unlike, is_new_name
from troupe.castings import have_one_player
from troupe.clashes import clashes_of
from troupe.errors import NoChange

MOST_MINUTES = 999999999


def are_minutes(number):
    return 0 <= number <= MOST_MINUTES


def is_part(book, number):
    return 0 <= number < len(book[PARTS])


def is_scene(book, number):
    return 0 <= number < len(book[SCENES])


def may_be_added(book, scene):
    name, length, pause, numbers = scene
    if not is_new_name(book[SCENES], name) or not are_minutes(length) or not are_minutes(pause):
        return False
    return are_unlike(numbers) and all([is_part(book, number) for number in numbers])


def fits_scene(book, kind, scene, number):
    if kind == "length" or kind == "pause":
        return are_minutes(number)
    if kind == "enter":
        return is_part(book, number) and number not in scene[3]
    return kind == "leave" and number in scene[3]


def fits(book, change):
    kind = change[0]
    at = change[1]
    if kind == "add":
        return 0 <= at <= len(book[SCENES]) and may_be_added(book, change[2])
    if not is_scene(book, at):
        return False
    if kind == "move":
        return is_scene(book, change[2])
    return kind == "cut" or fits_scene(book, kind, book[SCENES][at], change[2])


def ask_that_it_fits(book, change):
    if not fits(book, change):
        raise NoChange("the change does not fit the book")


def taken_out(scenes, at):
    return scenes[:at] + scenes[at + 1:]


def put_in(scenes, at, scene):
    return scenes[:at] + (scene,) + scenes[at:]


def changed_scene(kind, scene, number):
    name, length, pause, numbers = scene
    if kind == "length":
        return (name, number, pause, numbers)
    if kind == "pause":
        return (name, length, number, numbers)
    if kind == "enter":
        return (name, length, pause, numbers + (number,))
    return (name, length, pause, tuple([other for other in numbers if other != number]))


def changed_scenes(scenes, change):
    kind = change[0]
    at = change[1]
    if kind == "add":
        return put_in(scenes, at, change[2])
    others = taken_out(scenes, at)
    if kind == "cut":
        return others
    if kind == "move":
        return put_in(others, change[2], scenes[at])
    return put_in(others, at, changed_scene(kind, scenes[at], change[2]))


def changed(book, change):
    ask_that_it_fits(book, change)
    return book[:SCENES] + (changed_scenes(book[SCENES], change),) + book[SCENES + 1:]


def way_back(book, change):
    ask_that_it_fits(book, change)
    kind = change[0]
    at = change[1]
    if kind == "move":
        return [("move", change[2], at)]
    if kind == "add":
        return [("cut", at)]
    again = ("add", at, book[SCENES][at])
    if kind == "cut":
        return [again]
    # Who enters comes behind all others, so a scene that one left from the middle of is put in anew, as it was.
    return [("cut", at), again]


def shift_of(book, other):
    first = clashes_of(book)
    second = clashes_of(other)
    return ([pair for pair in second if pair not in first], [pair for pair in first if pair not in second])


def is_hurt(come, casting):
    return any([have_one_player(casting, i, j) for i, j in come])


def hurt_by(shift, castings):
    return [number for number, casting in enumerate(castings) if is_hurt(shift[0], casting)]
