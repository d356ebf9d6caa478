"""Trees that show, by putting parts together or apart, that no fewer groups do."""

from troupe.groups import crowd_of, fewest_of

# Classes are a list with, for each part, the number of one part of its class, the same one for all of the class.


def put_together(classes, i, j):
    return [classes[i] if number == classes[j] else number for number in classes]


# The pairs of classes that clash, each the less number first.
def class_clashes(classes, clashes):
    pairs = [(classes[i], classes[j]) for i, j in clashes]
    return [(min(pair), max(pair)) for pair in pairs]


def crowd_shows(classes, clashes, k, parts):
    numbers = sorted(set([classes[part] for part in parts]))
    if len(parts) < k or len(numbers) < len(parts):
        return False
    pairs = class_clashes(classes, clashes)
    for at, number in enumerate(numbers):
        if not all([(number, other) in pairs for other in numbers[at + 1:]]):
            return False
    return True


def shows_from(classes, clashes, k, tree):
    if tree[0] == "crowd":
        return crowd_shows(classes, clashes, k, tree[1])
    i = tree[1]
    j = tree[2]
    if not shows_from(put_together(classes, i, j), clashes, k, tree[3]):
        return False
    return shows_from(classes, clashes + [(i, j)], k, tree[4])


def shows(many, clashes, k, tree):
    return shows_from(list(range(many)), clashes, k, tree)


def places_apart(many, pairs):
    for i in range(many):
        for j in range(i + 1, many):
            if (i, j) not in pairs:
                return (i, j)
    return None


# Each pair told makes fewer the pairs of classes that don't clash, both ways; so the tree ends.
def tree_from(classes, clashes, k):
    numbers = sorted(set(classes))
    pairs = [(numbers.index(i), numbers.index(j)) for i, j in class_clashes(classes, clashes)]
    crowd = crowd_of(len(numbers), pairs)
    if len(crowd) >= k:
        return ("crowd", [numbers[place] for place in crowd])
    places = places_apart(len(numbers), pairs)
    i = numbers[places[0]]
    j = numbers[places[1]]
    one = tree_from(put_together(classes, i, j), clashes, k)
    apart = tree_from(classes, clashes + [(i, j)], k)
    return ("pair", i, j, one, apart)


def tree_of(many, clashes):
    return tree_from(list(range(many)), clashes, fewest_of(many, clashes)[0])
