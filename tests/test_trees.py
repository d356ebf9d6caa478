import itertools
import random
import unittest

from troupe.groups import fewest_of
from troupe.trees import shows, tree_of

FIVE_RING = [(0, 1), (0, 4), (1, 2), (2, 3), (3, 4)]


def all_pairs(many):
    return [(i, j) for i in range(many) for j in range(i + 1, many)]


# The clashes whose pairs have their bit in the mask.
def clashes_by(many, mask):
    return [pair for at, pair in enumerate(all_pairs(many)) if mask >> at & 1]


# Clashes spread by a number, the same each time, from hardly any of all pairs to nearly all of them.
def spread_clashes(many, number):
    spread = random.Random(number)
    share = spread.random()
    return [both for both in all_pairs(many) if spread.random() < share]


# Like these, but five of the parts are a ring, so that often no crowd is as great as the fewest groups are many.
def ring_clashes(many, number):
    spread = random.Random(number)
    share = spread.random()
    names = spread.sample(range(many), many)
    clashes = []
    for i, j in all_pairs(many):
        chosen = (i, j) in FIVE_RING if j < 5 else spread.random() < share
        if chosen:
            clashes.append((min(names[i], names[j]), max(names[i], names[j])))
    return spread.sample(clashes, len(clashes))


def crowd(*parts):
    return ("crowd", list(parts))


def pair(i, j, one, apart):
    return ("pair", i, j, one, apart)


def nodes_of(tree):
    return 1 if tree[0] == "crowd" else 1 + nodes_of(tree[3]) + nodes_of(tree[4])


def depth_of(tree):
    return 0 if tree[0] == "crowd" else 1 + max(depth_of(tree[3]), depth_of(tree[4]))


def crowds_of(tree):
    return [tree[1]] if tree[0] == "crowd" else crowds_of(tree[3]) + crowds_of(tree[4])


def is_tree(many, tree):
    if tree.__class__ is not tuple:
        return False
    if tree[0] == "crowd":
        parts = tree[1]
        numbers = all([part.__class__ is int and 0 <= part < many for part in parts])
        return len(tree) == 2 and parts.__class__ is list and numbers and len(set(parts)) == len(parts)
    if tree[0] != "pair" or len(tree) != 5 or tree[1] == tree[2]:
        return False
    numbers = all([part.__class__ is int and 0 <= part < many for part in tree[1:3]])
    return numbers and is_tree(many, tree[3]) and is_tree(many, tree[4])


# The words of the document, over sets of parts.
def told_shows(classes, clashes, k, tree):
    if tree[0] == "crowd":
        if len(tree[1]) < k:
            return False
        for one, other in itertools.combinations(tree[1], 2):
            first = next(members for members in classes if one in members)
            second = next(members for members in classes if other in members)
            if first == second:
                return False
            if not any(frozenset([i, j]) in clashes for i in first for j in second):
                return False
        return True
    i, j, one, apart = tree[1:]
    joined = frozenset().union(*[members for members in classes if i in members or j in members])
    rest = [members for members in classes if i not in members and j not in members]
    with_clash = clashes | {frozenset([i, j])}
    return told_shows(rest + [joined], clashes, k, one) and told_shows(classes, with_clash, k, apart)


def told(many, clashes, k, tree):
    return told_shows([frozenset([part]) for part in range(many)], {frozenset(both) for both in clashes}, k, tree)


# Trees spread by a number, the same each time: pairs and crowds of all kinds, useful or not.
def spread_tree(many, depth, number):
    return drawn_tree(many, depth, random.Random(number))


def drawn_tree(many, depth, spread):
    if depth == 0 or spread.randrange(8) == 0:
        return ("crowd", spread.sample(range(many), spread.randrange(4)))
    i, j = spread.sample(range(many), 2)
    return ("pair", i, j, drawn_tree(many, depth - 1, spread), drawn_tree(many, depth - 1, spread))


# The tree that asks of every two classes, until all clash with one another.
def whole_tree(classes, clashes):
    for i, j in itertools.combinations(sorted(set(classes)), 2):
        if (i, j) not in clashes:
            together = [i if number == j else number for number in classes]
            moved = [(i if a == j else a, i if b == j else b) for a, b in clashes]
            one = whole_tree(together, [(min(a, b), max(a, b)) for a, b in moved])
            return ("pair", i, j, one, whole_tree(classes, clashes + [(i, j)]))
    return ("crowd", sorted(set(classes)))


class TreeTest(unittest.TestCase):
    # A repr tells 1 from True and a list from a tuple, which == on numbers does not.
    def same(self, got, wanted):
        self.assertEqual(repr(got), repr(wanted))

    def shown(self, many, clashes, k, tree):
        with self.subTest(clashes=clashes, k=k, tree=tree):
            self.same(shows(many, clashes, k, tree), True)

    def not_shown(self, many, clashes, k, tree):
        with self.subTest(clashes=clashes, k=k, tree=tree):
            self.same(shows(many, clashes, k, tree), False)

    # The tree shows each number up to the most, and none above; none at all where most is -1.
    def up_to(self, many, clashes, tree, most):
        for k in range(most + 1):
            self.shown(many, clashes, k, tree)
        for k in range(most + 1, most + 4):
            self.not_shown(many, clashes, k, tree)


class TestCrowdsShow(TreeTest):
    def test_an_empty_crowd(self):
        self.up_to(0, [], crowd(), 0)
        self.up_to(3, [(0, 1)], crowd(), 0)

    def test_a_crowd_of_one(self):
        self.up_to(1, [], crowd(0), 1)
        self.up_to(8, [], crowd(7), 1)

    def test_a_crowd_of_parts_that_clash(self):
        self.up_to(4, [(0, 2), (0, 3), (2, 3)], crowd(0, 2, 3), 3)
        self.up_to(8, all_pairs(8), crowd(0, 1, 2, 3, 4, 5, 6, 7), 8)

    def test_parts_in_any_order(self):
        for parts in itertools.permutations([0, 2, 3]):
            self.up_to(4, [(0, 2), (0, 3), (2, 3)], crowd(*parts), 3)
            self.up_to(4, [(0, 2), (2, 3)], crowd(*parts), -1)

    def test_clashes_in_any_order(self):
        for clashes in itertools.permutations([(0, 2), (0, 3), (2, 3), (1, 3)]):
            self.up_to(4, list(clashes), crowd(2, 0, 3), 3)
            self.up_to(4, list(clashes), crowd(1, 0, 3), -1)

    def test_a_crowd_with_fewer_parts_than_k(self):
        self.not_shown(3, all_pairs(3), 3, crowd(0, 1))
        self.not_shown(3, all_pairs(3), 1, crowd())
        self.not_shown(3, all_pairs(3), 99999999999999999999, crowd(0, 1, 2))

    def test_a_crowd_of_which_two_do_not_clash(self):
        self.up_to(2, [], crowd(0, 1), -1)
        self.up_to(3, [(0, 1), (1, 2)], crowd(0, 1, 2), -1)
        self.up_to(3, [(0, 1), (0, 2)], crowd(0, 1, 2), -1)
        self.up_to(3, [(0, 2), (1, 2)], crowd(0, 1, 2), -1)

    def test_k_of_nought_asks_for_a_crowd_all_the_same(self):
        self.not_shown(2, [], 0, crowd(0, 1))
        self.not_shown(2, [(0, 1)], 0, pair(0, 1, crowd(0, 1), crowd(0, 1)))
        self.shown(2, [], 0, pair(0, 1, crowd(), crowd()))


class TestPairsShow(TreeTest):
    def test_both_ways_must_show(self):
        self.up_to(2, [], pair(0, 1, crowd(0), crowd(0, 1)), 1)
        self.up_to(2, [], pair(0, 1, crowd(), crowd(0, 1)), 0)
        self.up_to(2, [], pair(0, 1, crowd(0), crowd()), 0)
        self.up_to(2, [], pair(0, 1, crowd(0, 1), crowd(0, 1)), -1)

    def test_a_ring_of_five_needs_three(self):
        self.up_to(5, FIVE_RING, pair(0, 2, crowd(0, 3, 4), crowd(0, 1, 2)), 3)
        self.up_to(5, FIVE_RING, pair(2, 0, crowd(2, 3, 4), crowd(2, 1, 0)), 3)
        self.up_to(5, FIVE_RING, pair(0, 2, crowd(0, 1), crowd(0, 1, 2)), 2)
        self.up_to(5, FIVE_RING, pair(0, 2, crowd(0, 1, 3), crowd(0, 1, 2)), -1)
        self.up_to(5, FIVE_RING, pair(0, 2, crowd(0, 3, 4), crowd(0, 1, 3)), -1)

    def test_either_part_stands_for_its_class(self):
        for part in (0, 2):
            self.up_to(5, FIVE_RING, pair(0, 2, crowd(part, 3, 4), crowd(0, 1, 2)), 3)
            self.up_to(5, FIVE_RING, pair(0, 2, crowd(4, part, 3), crowd(0, 1, 2)), 3)

    def test_put_together_is_not_so_when_apart(self):
        # Only when put together do 0 and 3 clash, by way of 2.
        clashes = [(2, 3)]
        self.up_to(4, clashes, pair(0, 2, crowd(0, 3), crowd(0, 2)), 2)
        self.up_to(4, clashes, pair(0, 2, crowd(0, 3), crowd(0, 3)), -1)

    def test_a_clash_of_apart_is_not_there_when_put_together(self):
        self.up_to(3, [], pair(0, 1, pair(1, 2, crowd(0), crowd(0, 2)), crowd(0, 1)), 1)
        self.up_to(3, [], pair(0, 1, pair(1, 2, crowd(0), crowd(0, 1)), crowd(0, 1)), -1)
        self.up_to(3, [], pair(0, 1, crowd(2), pair(1, 2, crowd(1), crowd(0, 1))), 1)
        self.up_to(3, [], pair(0, 1, crowd(2), pair(1, 2, crowd(0, 2), crowd(1, 0))), 1)
        self.up_to(3, [], pair(0, 1, crowd(2), pair(1, 2, crowd(0, 2), crowd(0, 2))), -1)

    def test_a_crowd_with_two_parts_of_one_class(self):
        self.up_to(2, [], pair(0, 1, crowd(0, 1), crowd(0, 1)), -1)
        self.up_to(3, [(0, 2), (1, 2)], pair(0, 1, crowd(0, 2), crowd(0, 1, 2)), 2)
        self.up_to(3, [(0, 2), (1, 2)], pair(0, 1, crowd(0, 1, 2), crowd(0, 1, 2)), -1)
        self.up_to(3, [(0, 2), (1, 2)], pair(0, 1, crowd(2, 1, 0), crowd(0, 1, 2)), -1)
        # Of one class by way of a third part.
        self.up_to(3, [], pair(0, 1, pair(1, 2, crowd(0, 2), crowd(0, 2)), crowd(0, 1)), -1)

    def test_a_pair_of_parts_that_are_one_class_already(self):
        inner = pair(0, 1, crowd(0, 2), crowd(1, 2))
        self.up_to(3, [(1, 2)], pair(0, 1, inner, crowd(1, 2)), 2)
        # Both ways of the inner pair are still asked, and its parts are one class in both.
        self.up_to(3, [(1, 2)], pair(0, 1, pair(0, 1, crowd(2), crowd(0, 2)), crowd(1, 2)), 1)
        self.up_to(3, [(1, 2)], pair(0, 1, pair(0, 1, crowd(0, 2), crowd(2)), crowd(1, 2)), 1)
        self.up_to(3, [(1, 2)], pair(0, 1, pair(0, 1, crowd(0, 2), crowd(0, 1)), crowd(1, 2)), -1)
        self.up_to(3, [(1, 2)], pair(0, 1, pair(1, 0, crowd(0, 1), crowd(0, 2)), crowd(1, 2)), -1)

    def test_one_class_already_by_way_of_a_third_part(self):
        inner = pair(0, 2, crowd(0, 3), crowd(2, 3))
        tree = pair(0, 1, pair(1, 2, inner, crowd(1, 2)), crowd(0, 1))
        self.up_to(4, [(1, 3)], tree, 2)
        inner = pair(0, 2, crowd(0, 3), crowd(0, 2))
        self.up_to(4, [(1, 3)], pair(0, 1, pair(1, 2, inner, crowd(1, 2)), crowd(0, 1)), -1)

    def test_a_pair_that_clashes_already(self):
        self.up_to(2, [(0, 1)], pair(0, 1, crowd(0), crowd(0, 1)), 1)
        self.up_to(2, [(0, 1)], pair(0, 1, crowd(0, 1), crowd(0, 1)), -1)
        self.up_to(3, [(0, 1), (1, 2)], pair(0, 1, crowd(0, 2), crowd(0, 1)), 2)
        self.up_to(3, [(0, 1), (1, 2)], pair(1, 0, crowd(0, 2), crowd(0, 1)), 2)
        # A clash told by a pair above counts like one that is handed in.
        self.up_to(3, [], pair(0, 1, crowd(0), pair(0, 1, crowd(1), crowd(0, 1))), 1)
        self.up_to(3, [], pair(0, 1, crowd(0), pair(0, 1, crowd(1, 0), crowd(0, 1))), -1)

    def test_clashes_between_classes_that_were_put_together(self):
        # Parts 0 and 2 are one class, 1 and 3 another; only 2 and 3 clash.
        ahead = [crowd(0, 2), crowd(1, 3)]
        for parts in [(0, 1), (0, 3), (2, 1), (2, 3), (1, 0), (3, 0), (1, 2), (3, 2)]:
            self.up_to(4, [(2, 3)], pair(0, 2, pair(1, 3, crowd(*parts), ahead[1]), ahead[0]), 2)
        for parts in [(0, 1), (0, 3), (2, 1), (2, 3)]:
            self.up_to(4, [], pair(0, 2, pair(1, 3, crowd(*parts), ahead[1]), ahead[0]), -1)

    def test_a_class_of_many_parts_keeps_the_clashes_of_all(self):
        tree = crowd(0, 7)
        for part in range(6, 0, -1):
            tree = pair(part - 1, part, tree, crowd(part, part - 1))
        for part in range(7):
            self.up_to(8, [(part, 7)], tree, 2)
        self.up_to(8, [], tree, -1)

    def test_classes_of_several_parts_are_put_together_whole(self):
        # First 0 with 1 and 2 with 3, then 1 with 2: all four are one class.
        for i, j in [(1, 2), (2, 1), (0, 3), (3, 0)]:
            for part in range(4):
                inner = pair(i, j, crowd(part, 4), crowd(i, j))
                tree = pair(0, 1, pair(2, 3, inner, crowd(2, 3)), crowd(0, 1))
                for other in range(4):
                    self.up_to(5, [(other, 4)], tree, 2)
            for both in all_pairs(4):
                inner = pair(i, j, crowd(*both), crowd(i, j))
                self.up_to(5, [(0, 4)], pair(0, 1, pair(2, 3, inner, crowd(2, 3)), crowd(0, 1)), -1)

    def test_a_clash_of_apart_goes_with_its_class(self):
        # 0 and 1 are told apart, then 1 and 2 are put together: 0 clashes with both.
        self.up_to(3, [], pair(0, 1, crowd(0), pair(1, 2, crowd(0, 2), crowd(1, 2))), 1)
        self.up_to(3, [(0, 2)], pair(0, 1, crowd(0, 2), pair(1, 2, crowd(0, 2), crowd(0, 1, 2))), 2)

    def test_a_wrong_place_deep_within(self):
        right = pair(0, 2, crowd(0, 3, 4), crowd(0, 1, 2))
        for clashes in (FIVE_RING, list(reversed(FIVE_RING))):
            self.up_to(5, clashes, pair(1, 3, crowd(1, 4, 0), pair(0, 2, crowd(2, 4, 3), crowd(0, 1, 2))), 3)
            self.up_to(5, clashes, pair(1, 3, crowd(1, 4, 0), pair(0, 2, crowd(2, 4, 1), crowd(0, 1, 2))), -1)
            self.up_to(5, clashes, pair(1, 3, crowd(1, 4, 0), right), 3)
            self.up_to(5, clashes, pair(1, 3, crowd(1, 4), right), 2)
            self.up_to(5, clashes, pair(1, 3, crowd(1, 4, 2), right), -1)


class TestManyTrees(TreeTest):
    def check(self, many, clashes, k, tree):
        got = shows(many, clashes, k, tree)
        if got is not told(many, clashes, k, tree):
            self.fail(f"{clashes} {k} {tree} {got}")
        return got

    def test_all_small_trees(self):
        crowds = [("crowd", list(parts)) for size in range(4) for parts in itertools.combinations(range(3), size)]
        found = {True: 0, False: 0}
        for mask in range(8):
            clashes = clashes_by(3, mask)
            least = fewest_of(3, clashes)[0]
            for i, j in itertools.permutations(range(3), 2):
                for one, apart in itertools.product(crowds, repeat=2):
                    for k in range(5):
                        got = self.check(3, clashes, k, ("pair", i, j, one, apart))
                        self.assertTrue(k <= least or not got)
                        found[got] += 1
        self.assertTrue(min(found.values()) > 1000)

    def test_trees_of_all_kinds(self):
        found = {True: 0, False: 0}
        for number in range(6000):
            many = 3 + number % 3
            clashes = spread_clashes(many, number)
            tree = spread_tree(many, 1 + number % 4, number)
            least = fewest_of(many, clashes)[0]
            for k in range(4):
                got = self.check(many, clashes, k, tree)
                self.assertTrue(k <= least or not got)
                found[got] += 1
        self.assertTrue(min(found.values()) > 1000)

    def test_a_great_tree(self):
        tree = whole_tree(list(range(8)), [])
        self.assertTrue(8000 < nodes_of(tree) <= 10000)
        self.assertEqual(depth_of(tree), 28)
        self.up_to(8, [], tree, 1)

    def test_thirty_pairs_one_within_another(self):
        for way in range(2):
            tree = crowd(0)
            for at in range(30):
                i, j = all_pairs(8)[at * 5 % 28]
                tree = pair(i, j, *((tree, crowd(0)) if way == 0 else (crowd(0), tree)))
            self.assertEqual(depth_of(tree), 30)
            self.up_to(8, all_pairs(8), tree, 1)
            self.up_to(8, [], tree, 1)


class TestTreeOf(TreeTest):
    def check(self, many, clashes):
        tree = tree_of(many, clashes)
        k = fewest_of(many, clashes)[0]
        words = f"{many} {clashes} {tree}"
        self.assertTrue(is_tree(many, tree), words)
        self.assertIs(shows(many, clashes, k, tree), True, words)
        self.assertIs(shows(many, clashes, k + 1, tree), False, words)
        self.assertTrue(told(many, clashes, k, tree), words)
        self.assertFalse(told(many, clashes, k + 1, tree), words)
        self.assertTrue(nodes_of(tree) <= 10000 and depth_of(tree) <= 30, words)
        return k

    def test_no_parts(self):
        self.same(tree_of(0, []), ("crowd", []))

    def test_one_part(self):
        self.assertEqual(self.check(1, []), 1)

    def test_no_clashes(self):
        for many in range(1, 9):
            self.assertEqual(self.check(many, []), 1)

    def test_all_clash(self):
        for many in range(9):
            self.assertEqual(self.check(many, all_pairs(many)), many)

    def test_rings(self):
        for many in range(3, 9):
            clashes = [(i, i + 1) for i in range(many - 1)] + [(0, many - 1)]
            self.assertEqual(self.check(many, clashes), 2 + many % 2)

    def test_all_but_a_ring(self):
        for many, k in [(5, 3), (6, 3), (7, 4), (8, 4)]:
            ring = [(i, i + 1) for i in range(many - 1)] + [(0, many - 1)]
            self.assertEqual(self.check(many, [both for both in all_pairs(many) if both not in ring]), k)

    def test_a_ring_of_five_and_three_parts_that_clash_with_all(self):
        clashes = FIVE_RING + [(i, j) for i, j in all_pairs(8) if j >= 5]
        self.assertEqual(self.check(8, clashes), 6)

    def test_all_clashes_of_up_to_five_parts(self):
        for many in range(6):
            for mask in range(1 << len(all_pairs(many))):
                self.check(many, clashes_by(many, mask))

    def test_few_and_many_clashes_of_six_to_eight_parts(self):
        found = [self.check(6 + number % 3, spread_clashes(6 + number % 3, number)) for number in range(1500)]
        self.assertEqual(sorted(set(found)), [1, 2, 3, 4, 5, 6, 7, 8])

    def test_clashes_for_which_a_crowd_alone_does_not_do(self):
        pairs = 0
        for number in range(1500):
            clashes = ring_clashes(6 + number % 3, number)
            self.check(6 + number % 3, clashes)
            pairs += tree_of(6 + number % 3, clashes)[0] == "pair"
        self.assertTrue(pairs > 500)

    def test_clashes_in_any_order(self):
        for order in itertools.permutations(FIVE_RING):
            self.assertEqual(self.check(5, list(order)), 3)


class TestHandedIn(TreeTest):
    def test_clashes_and_trees_stay_as_they_were(self):
        for clashes in (FIVE_RING, list(reversed(FIVE_RING)), []):
            tree = pair(0, 2, pair(1, 3, crowd(4, 3, 0), crowd(3, 1)), pair(3, 0, crowd(2, 1, 0), crowd(1, 0, 2)))
            kept = repr((clashes, tree))
            shows(5, clashes, 2, tree)
            tree_of(5, clashes)
            self.assertEqual(repr((clashes, tree)), kept)

    def test_the_lists_are_the_askers_own(self):
        seven_ring = [(i, i + 1) for i in range(6)] + [(0, 6)]
        for many, clashes in [(0, []), (3, []), (3, all_pairs(3)), (5, FIVE_RING), (7, seven_ring)]:
            first = tree_of(many, clashes)
            second = tree_of(many, clashes)
            kept = repr(second)
            lists = crowds_of(first)
            self.assertEqual(len({id(parts) for parts in lists}), len(lists))
            for parts in lists:
                parts.clear()
                parts.append("else")
            self.assertEqual(repr(second), kept)
            self.assertEqual(repr(tree_of(many, clashes)), kept)

    def test_a_tree_looked_at_is_not_kept(self):
        tree = pair(0, 2, crowd(0, 3, 4), crowd(0, 1, 2))
        self.shown(5, FIVE_RING, 3, tree)
        tree[3][1].pop()
        self.not_shown(5, FIVE_RING, 3, tree)


if __name__ == "__main__":
    unittest.main()
