"""Nights on which some players are away: who covers, and where too few do."""

from troupe.books import COVERS, PLAYERS, SCENES
from troupe.castings import ask_that_it_plays


def gaps_of(book, casting, away, scene):
    return [part for part in book[SCENES][scene][3] if casting[part] in away]


def covers_of(book, casting, away, scene, part):
    busy = [casting[other] for other in book[SCENES][scene][3]]
    told = sorted([player for other, player in book[COVERS] if other == part])
    return [player for player in told if player not in away and player not in busy]


# Who covers another gap already is given on where that gap finds somebody else. Asked keeps all who were asked for
# this gap, so that nobody is asked twice, and who they are can be told where it is in vain.
def finds_cover(choices, covered, asked, gap):
    for player in choices[gap]:
        if player not in asked:
            asked[player] = True
            if player not in covered or finds_cover(choices, covered, asked, covered[player]):
                covered[player] = gap
                return True
    return False


# Asked in vain, each player covers a gap, and all who may cover one of those were asked, too: so the gaps are one more.
def lack_told(covered, asked, gap):
    gaps = [gap] + [covered[player] for player in asked]
    return ("lacks", sorted(gaps), sorted(asked))


def scene_told(book, casting, away, scene):
    gaps = gaps_of(book, casting, away, scene)
    choices = dict([(gap, covers_of(book, casting, away, scene, gap)) for gap in gaps])
    covered = {}
    for gap in gaps:
        asked = {}
        if not finds_cover(choices, covered, asked, gap):
            return lack_told(covered, asked, gap)
    players = dict([(covered[player], player) for player in covered])
    return ("covered", [(gap, players[gap]) for gap in gaps])


def scene_of_night(book, casting, away, scene):
    ask_that_it_plays(book, casting)
    return scene_told(book, casting, away, scene)


def night_of(book, casting, away):
    ask_that_it_plays(book, casting)
    return [scene_told(book, casting, away, scene) for scene in range(len(book[SCENES]))]


def first_lacking(book, casting, away):
    for scene in range(len(book[SCENES])):
        if scene_told(book, casting, away, scene)[0] == "lacks":
            return scene
    return None


# Sets in the order of tuples, each made longer by players behind its last one, are in this order again.
def one_longer(sets, many):
    longer = []
    for players in sets:
        start = players[-1] + 1 if players else 0
        longer.extend([players + (player,) for player in range(start, many)])
    return longer


def sets_up_to(many, most):
    sets = [()]
    found = [()]
    for size in range(most):
        sets = one_longer(sets, many)
        found.extend(sets)
    return found


def nights_of(book, casting, most):
    ask_that_it_plays(book, casting)
    return [(away, first_lacking(book, casting, away)) for away in sets_up_to(len(book[PLAYERS]), most)]
