import itertools
import random
import unittest

from troupe.groups import are_right, crowd_of, fewest_of


def all_pairs(many):
    return [(i, j) for i in range(many) for j in range(i + 1, many)]


# The clashes whose pairs have their bit in the mask.
def clashes_by(many, mask):
    return [pair for at, pair in enumerate(all_pairs(many)) if mask >> at & 1]


# All ways to part so many parts, as groups numbered as they come first.
def partings(many):
    if many == 0:
        return [[]]
    found = []
    for groups in partings(many - 1):
        found.extend([groups + [group] for group in range(max(groups, default=-1) + 2)])
    return found


# For each parting how many groups it has and the mask of the pairs that it puts together, the fewest groups first.
def masked_partings(many):
    masked = []
    for groups in partings(many):
        mask = sum([1 << at for at, (i, j) in enumerate(all_pairs(many)) if groups[i] == groups[j]])
        masked.append((max(groups, default=-1) + 1, mask))
    return sorted(masked)


# For each set of parts how many they are and the mask of its pairs, the greatest first.
def masked_sets(many):
    masked = []
    for size in range(many, -1, -1):
        for parts in itertools.combinations(range(many), size):
            mask = sum([1 << at for at, (i, j) in enumerate(all_pairs(many)) if i in parts and j in parts])
            masked.append((size, mask))
    return masked


def least_number(masked, mask):
    return next(many for many, together in masked if together & mask == 0)


def greatest_size(masked, mask):
    return next(size for size, pairs in masked if pairs & mask == pairs)


# Masks of clashes, the same each time, from hardly any of all pairs to nearly all of them.
def spread_masks(many, number):
    spread = random.Random(many)
    for at in range(number):
        share = spread.random()
        yield sum([1 << bit for bit in range(len(all_pairs(many))) if spread.random() < share])


def ring(parts):
    return [(min(i, j), max(i, j)) for i, j in zip(parts, parts[1:] + parts[:1])]


# Groups are right, told by the words of the document.
def told_right(clashes, groups):
    seen = []
    for group in groups:
        if group not in seen:
            seen.append(group)
    return seen == list(range(len(seen))) and not any([groups[i] == groups[j] for i, j in clashes])


class GroupTest(unittest.TestCase):
    # A repr tells 1 from True and a list from a tuple, which == on numbers does not.
    def same(self, got, wanted):
        self.assertEqual(repr(got), repr(wanted))

    def right(self, many, clashes, groups):
        with self.subTest(clashes=clashes, groups=groups):
            self.same(are_right(many, clashes, groups), True)

    def wrong(self, many, clashes, groups):
        with self.subTest(clashes=clashes, groups=groups):
            self.same(are_right(many, clashes, groups), False)


class TestRight(GroupTest):
    def test_no_parts_at_all(self):
        self.right(0, [], [])

    def test_one_part(self):
        self.right(1, [], [0])
        self.wrong(1, [], [1])
        self.wrong(1, [], [-1])

    def test_numbered_as_they_come_first(self):
        for groups in [[0, 0, 0, 0], [0, 1, 2, 3], [0, 1, 0, 2], [0, 0, 1, 0], [0, 1, 1, 0], [0, 1, 2, 0]]:
            self.right(4, [], groups)

    def test_not_numbered_as_they_come_first(self):
        for groups in [[1, 0, 0, 0], [1, 1, 1, 1], [0, 2, 1, 0], [0, 0, 2, 1], [0, 2, 2, 2], [1, 0, 2, 3],
                       [0, 1, 3, 2], [0, 1, 1, 3]]:
            self.wrong(4, [], groups)

    def test_a_number_below_nought(self):
        for groups in [[-1, 0, 1], [0, -1, 1], [0, 1, -1], [-1, -1, -1], [0, 0, -2], [-3, -2, -1],
                       [0, 1, -99999999999999999999]]:
            self.wrong(3, [], groups)

    def test_a_number_too_great(self):
        for groups in [[3, 3, 3], [0, 0, 2], [0, 1, 3], [0, 0, 3], [0, 1, 99999999999999999999],
                       [99999999999999999999, 0, 1]]:
            self.wrong(3, [], groups)

    def test_a_clash_within_a_group(self):
        self.wrong(2, [(0, 1)], [0, 0])
        self.right(2, [(0, 1)], [0, 1])
        self.wrong(4, [(0, 1), (1, 3)], [0, 1, 0, 1])
        self.right(4, [(0, 1), (1, 2)], [0, 1, 0, 1])
        self.wrong(4, [(0, 1), (0, 3), (1, 2), (2, 3)], [0, 1, 2, 2])

    def test_both_a_clash_and_wrong_numbers(self):
        self.wrong(3, [(0, 1)], [1, 1, 0])
        self.wrong(3, [(0, 1)], [-1, -1, 5])

    def test_more_groups_than_needed_are_right(self):
        self.right(8, [], [0, 1, 2, 3, 4, 5, 6, 7])
        self.right(8, all_pairs(8), [0, 1, 2, 3, 4, 5, 6, 7])

    def test_clashes_in_any_order(self):
        clashes = [(0, 1), (0, 2), (1, 3), (2, 3)]
        for order in itertools.permutations(clashes):
            self.right(4, list(order), [0, 1, 1, 0])
            self.right(4, list(order), [0, 1, 2, 0])
            self.wrong(4, list(order), [0, 1, 0, 1])
            self.wrong(4, list(order), [0, 0, 1, 1])

    def test_all_lists_of_four_numbers(self):
        for mask in range(64):
            clashes = clashes_by(4, mask)
            for groups in itertools.product(range(-1, 5), repeat=4):
                got = are_right(4, clashes, list(groups))
                if got is not told_right(clashes, groups):
                    self.fail(f"{clashes} {groups} {got}")


class TestFewest(GroupTest):
    # The groups are right and as many as told; gives their number.
    def number(self, many, clashes):
        told = fewest_of(many, clashes)
        self.assertEqual([told.__class__, len(told)], [tuple, 2])
        k, groups = told
        self.assertEqual([k.__class__, groups.__class__, len(groups)], [int, list, many])
        self.assertTrue(all([group.__class__ is int for group in groups]))
        self.assertTrue(told_right(clashes, groups), (clashes, told))
        self.assertEqual(len(set(groups)), k, (clashes, told))
        return k

    def test_no_parts(self):
        self.same(fewest_of(0, []), (0, []))

    def test_one_part(self):
        self.same(fewest_of(1, []), (1, [0]))

    def test_no_clashes(self):
        for many in range(1, 9):
            self.same(fewest_of(many, []), (1, [0] * many))

    def test_all_clash(self):
        for many in range(9):
            self.same(fewest_of(many, all_pairs(many)), (many, list(range(many))))

    def test_one_clash(self):
        for pair in all_pairs(8):
            self.assertEqual(self.number(8, [pair]), 2)

    def test_all_but_one_clash(self):
        for pair in all_pairs(8):
            self.assertEqual(self.number(8, [other for other in all_pairs(8) if other != pair]), 7)

    def test_rings(self):
        self.assertEqual([self.number(many, ring(list(range(many)))) for many in range(3, 9)], [3, 2, 3, 2, 3, 2])

    def test_more_groups_than_the_greatest_crowd(self):
        outer = ring([0, 1, 2, 3, 4])
        self.assertEqual(self.number(6, outer + [(i, 5) for i in range(5)]), 4)
        five_and_three = outer + [(5, 6), (5, 7), (6, 7)] + [(i, j) for i in range(5) for j in range(5, 8)]
        self.assertEqual(self.number(8, five_and_three), 6)
        without_ring = [pair for pair in all_pairs(7) if pair not in ring(list(range(7)))]
        self.assertEqual(self.number(7, without_ring), 4)

    def test_parts_in_an_order_in_which_the_first_free_group_is_too_many(self):
        # Each two parts 2n and 2n + 1 do not clash; all else between odd and even ones does.
        clashes = [(i, j) for i, j in all_pairs(8) if (i + j) % 2 and i // 2 != j // 2]
        self.assertEqual(self.number(8, clashes), 2)

    def test_clashes_in_any_order(self):
        clashes = ring([0, 3, 1, 4, 2])
        for order in itertools.permutations(clashes):
            self.assertEqual(self.number(5, list(order)), 3)

    def test_against_all_partings_of_up_to_six_parts(self):
        for many in range(7):
            masked = masked_partings(many)
            for mask in range(1 << len(all_pairs(many))):
                self.assertEqual(self.number(many, clashes_by(many, mask)), least_number(masked, mask), (many, mask))

    def test_against_all_partings_of_seven_and_eight_parts(self):
        for many in (7, 8):
            masked = masked_partings(many)
            for mask in spread_masks(many, 300):
                self.assertEqual(self.number(many, clashes_by(many, mask)), least_number(masked, mask), (many, mask))


class TestCrowds(GroupTest):
    # The list is a crowd; gives its size.
    def size(self, many, clashes):
        crowd = crowd_of(many, clashes)
        self.assertIs(crowd.__class__, list)
        self.assertTrue(all([part.__class__ is int and 0 <= part < many for part in crowd]))
        self.assertEqual(crowd, sorted(set(crowd)), clashes)
        self.assertTrue(all([pair in clashes for pair in itertools.combinations(crowd, 2)]), (clashes, crowd))
        return len(crowd)

    def test_no_parts(self):
        self.same(crowd_of(0, []), [])

    def test_one_part(self):
        self.same(crowd_of(1, []), [0])

    def test_no_clashes(self):
        for many in range(1, 9):
            self.assertEqual(self.size(many, []), 1)

    def test_all_clash(self):
        for many in range(9):
            self.same(crowd_of(many, all_pairs(many)), list(range(many)))

    def test_the_only_greatest(self):
        self.same(crowd_of(8, [(3, 6)]), [3, 6])
        self.same(crowd_of(6, [(0, 1), (2, 4), (2, 5), (4, 5), (0, 3)]), [2, 4, 5])
        self.same(crowd_of(6, [(4, 5), (0, 1), (2, 5), (0, 3), (2, 4)]), [2, 4, 5])
        self.same(crowd_of(7, [(0, 1), (0, 2), (1, 2), (1, 3), (1, 5), (1, 6), (3, 5), (3, 6), (5, 6)]), [1, 3, 5, 6])

    def test_rings(self):
        self.assertEqual([self.size(many, ring(list(range(many)))) for many in range(3, 9)], [3, 2, 2, 2, 2, 2])

    def test_clashes_in_any_order(self):
        clashes = [(0, 1), (1, 2), (1, 4), (2, 4), (3, 4)]
        for order in itertools.permutations(clashes):
            self.same(crowd_of(5, list(order)), [1, 2, 4])

    def test_against_all_crowds_of_up_to_six_parts(self):
        for many in range(7):
            masked = masked_sets(many)
            for mask in range(1 << len(all_pairs(many))):
                self.assertEqual(self.size(many, clashes_by(many, mask)), greatest_size(masked, mask), (many, mask))

    def test_against_all_crowds_of_seven_and_eight_parts(self):
        for many in (7, 8):
            masked = masked_sets(many)
            for mask in spread_masks(many, 300):
                self.assertEqual(self.size(many, clashes_by(many, mask)), greatest_size(masked, mask), (many, mask))


class TestHandedIn(GroupTest):
    def test_clashes_and_groups_stay_as_they_were(self):
        for clashes in [[], [(2, 3), (0, 3), (1, 2), (0, 1), (0, 2)], [(1, 3), (0, 2)]]:
            groups = [0, 1, 0, 2]
            kept = repr((clashes, groups))
            are_right(4, clashes, groups)
            fewest_of(4, clashes)
            crowd_of(4, clashes)
            self.assertEqual(repr((clashes, groups)), kept)

    def test_the_lists_are_the_askers_own(self):
        for many, clashes in [(0, []), (1, []), (4, []), (4, [(0, 1), (2, 3)]), (4, all_pairs(4))]:
            kept = repr((fewest_of(many, clashes), crowd_of(many, clashes)))
            second = (fewest_of(many, clashes), crowd_of(many, clashes))
            for given in (fewest_of(many, clashes)[1], crowd_of(many, clashes)):
                given.clear()
                given.append("else")
            self.assertEqual(repr(second), kept)
            self.assertEqual(repr((fewest_of(many, clashes), crowd_of(many, clashes))), kept)

    def test_clashes_changed_afterwards_change_nothing(self):
        clashes = [(0, 1), (1, 2)]
        fewest = fewest_of(3, clashes)
        crowd = crowd_of(3, clashes)
        kept = repr((fewest, crowd))
        clashes.append((0, 2))
        self.assertEqual(repr((fewest, crowd)), kept)
        self.same((fewest_of(3, clashes), crowd_of(3, clashes)), ((3, [0, 1, 2]), [0, 1, 2]))


if __name__ == "__main__":
    unittest.main()
