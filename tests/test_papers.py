import itertools
import random
import unittest

from troupe.books import read_book
from troupe.clashes import clashes_of
from troupe.least import least_of
from troupe.papers import holds, paper_of
from troupe.prices import prices_of, prices_of_change

LETTERS = "abcdefgh"


def all_pairs(many):
    return [(i, j) for i in range(many) for j in range(i + 1, many)]


# A book with just these clashes: dresses take no time, and each pair meets in a scene of its own.
def book_of(voices, players, clashes):
    rows = [f"part {letter} {voice} 0 0" for letter, voice in zip(LETTERS, voices)]
    rows.extend([f"player {letter} {own or '-'} {hire}" for letter, (own, hire) in zip(LETTERS, players)])
    rows.extend([f"scene {LETTERS[i]}{LETTERS[j]} 1 1 {LETTERS[i]} {LETTERS[j]}" for i, j in clashes])
    return read_book(rows)


# A drawn book whose parts may clash in a scene, or by a change.
def drawn_book(spread, parts, players):
    rows = [f"part {letter} {spread.choice('sst')} {spread.randrange(3)} {spread.randrange(3)}"
            for letter in LETTERS[:parts]]
    rows.extend([f"player {letter} {spread.choice(['-', 's', 't', 'st', 'st', 'tus'])} {spread.randrange(10)}"
                 for letter in LETTERS[:players]])
    for letter in LETTERS[:spread.randrange(5)]:
        names = spread.sample(LETTERS[:parts], spread.randrange(min(parts, 2) + 1))
        rows.append(" ".join(["scene", letter, str(spread.randrange(3)), str(spread.randrange(5))] + names))
    for one, other in itertools.product(LETTERS[:players], LETTERS[:parts]):
        if spread.randrange(2):
            rows.append(f"like {one} {other} {spread.randrange(10)}")
    return read_book(rows)


def drawn_prices(spread, book, most):
    hires = tuple([spread.randrange(most) for player in book[1]])
    return (hires, tuple([tuple([spread.randrange(most) for part in book[0]]) for player in book[1]]))


def subsets(things):
    return [some for size in range(len(things) + 1) for some in itertools.combinations(things, size)]


# The steps of a player from a tuple, by the words of the document: what is left behind each, and its price.
def told_steps(book, prices, player, left, price):
    steps = []
    for taken in subsets(left):
        voices = all([book[0][part][1] in list(book[1][player][1]) for part in taken])
        if voices and not set(itertools.combinations(taken, 2)) & set(clashes_of(book)):
            cost = sum([prices[1][player][part] for part in taken])
            hire = prices[0][player] if taken else 0
            steps.append((tuple(sorted(set(left) - set(taken))), price + cost + hire))
    return steps


def told_holds(book, prices, paper, price):
    if len(paper) - 1 != len(book[1]):
        return False
    if len(paper[0]) != 1 or paper[0][0][0] != tuple(range(len(book[0]))) or paper[0][0][1] != 0:
        return False
    for layer in paper:
        for one, other in itertools.combinations(layer, 2):
            if one[0] == other[0]:
                return False
    for player, layer in enumerate(paper[:-1]):
        for entry in layer:
            for left, cost in told_steps(book, prices, player, entry[0], entry[1]):
                if not [other for other in paper[player + 1] if other[0] == left and other[1] <= cost]:
                    return False
    for left, cost in paper[-1]:
        if left == () and (price is None or cost < price):
            return False
    return True


# The layers that a layer 0 asks for, none of their prices less than need be.
def told_paper(book, prices, layer):
    paper = [layer]
    for player in range(len(book[1])):
        found = {}
        for left, price in paper[-1]:
            for behind, cost in told_steps(book, prices, player, left, price):
                found[behind] = min(cost, found.get(behind, cost))
        paper.append(sorted(found.items()))
    return paper


def all_layers(book, prices):
    return told_paper(book, prices, [(tuple(range(len(book[0]))), 0)])


# The least price, by all castings that play, or None.
def told_least(book, prices):
    clashes = clashes_of(book)
    suited = [[k for k, player in enumerate(book[1]) if part[1] in player[1]] for part in book[0]]
    costs = []
    for casting in itertools.product(*suited):
        if not any([casting[i] == casting[j] for i, j in clashes]):
            hired = sum([prices[0][k] for k in set(casting)])
            costs.append(hired + sum([prices[1][k][part] for part, k in enumerate(casting)]))
    return min(costs, default=None)


# A paper with a few tuples put in, taken out, told twice or changed in their prices.
def drawn_paper(spread, book, paper):
    paper = [list(layer) for layer in paper]
    for at in range(spread.randrange(3)):
        layer = paper[spread.randrange(max(len(paper) - 1, 1))] if spread.randrange(3) else paper[-1]
        turn = spread.randrange(6)
        if turn == 0:
            some = [part for part in range(len(book[0])) if spread.randrange(2)]
            layer.append((tuple(some), spread.randrange(20)))
        elif layer:
            place = spread.randrange(len(layer))
            left, price = layer[place]
            if turn == 1:
                layer.pop(place)
            elif turn == 2:
                layer.append(layer[place])
            else:
                layer[place] = (left, price + spread.choice([-3, -2, -1, -1, 1]))
    return [spread.sample(layer, len(layer)) for layer in paper]


class PaperTest(unittest.TestCase):
    # A repr tells 1 from True and a list from a tuple, which == on numbers does not.
    def same(self, got, wanted):
        self.assertEqual(repr(got), repr(wanted))

    def shown(self, book, prices, paper, price):
        with self.subTest(book=book, prices=prices, paper=paper, price=price):
            self.same(holds(book, prices, paper, price), True)

    def not_shown(self, book, prices, paper, price):
        with self.subTest(book=book, prices=prices, paper=paper, price=price):
            self.same(holds(book, prices, paper, price), False)

    def never_shown(self, book, prices, paper):
        for price in (None, -99, 0, 1, 99):
            self.not_shown(book, prices, paper, price)


# Two players may both take one or both of two parts; least is to give both to the first one, for 6.
BOOK = book_of("ss", [("s", 40), ("s", 50)], [])
PRICES = ((3, 5), ((1, 2), (4, 0)))


def paper():
    return [
        [((0, 1), 0)],
        [((0, 1), 0), ((1,), 4), ((0,), 5), ((), 6)],
        [((0, 1), 0), ((1,), 4), ((0,), 5), ((), 6)],
    ]


# The paper with one layer in the stead of another.
def paper_with(at, layer):
    return paper()[:at] + [layer] + paper()[at + 1:]


class TestHolds(PaperTest):
    def test_the_paper_holds_up_to_the_least_price(self):
        for price in (6, 5, 1, 0, -1, -99999999999999999999):
            self.shown(BOOK, PRICES, paper(), price)
        for price in (7, 8, 99999999999999999999, None):
            self.not_shown(BOOK, PRICES, paper(), price)

    def test_tuples_in_any_order(self):
        for order in itertools.permutations(paper()[1]):
            self.shown(BOOK, PRICES, paper_with(1, list(order)), 6)
            self.shown(BOOK, PRICES, paper_with(2, list(order)), 6)
            self.not_shown(BOOK, PRICES, paper_with(1, list(order)), 7)

    def test_a_layer_too_few(self):
        for at in range(3):
            self.never_shown(BOOK, PRICES, paper()[:at] + paper()[at + 1:])
        self.never_shown(BOOK, PRICES, paper()[:1])
        self.never_shown(BOOK, PRICES, [])

    def test_a_layer_too_many(self):
        for at in range(4):
            for layer in paper() + [[]]:
                self.never_shown(BOOK, PRICES, paper()[:at] + [layer] + paper()[at:])

    def test_layer_0_with_another_tuple(self):
        for left in ((), (0,), (1,)):
            self.never_shown(BOOK, PRICES, paper_with(0, [(left, 0)]))

    def test_layer_0_with_another_price(self):
        for price in (1, 2, -1, -9):
            # All else is as it ought to be.
            self.never_shown(BOOK, PRICES, told_paper(BOOK, PRICES, [((0, 1), price)]))
            self.never_shown(BOOK, PRICES, paper_with(0, [((0, 1), price)]))

    def test_layer_0_with_two_tuples_or_none(self):
        for left, price in [((0,), 5), ((), 6), ((1,), 9), ((), 99), ((0, 1), 0), ((0, 1), 1)]:
            self.never_shown(BOOK, PRICES, paper_with(0, [((0, 1), 0), (left, price)]))
            self.never_shown(BOOK, PRICES, paper_with(0, [(left, price), ((0, 1), 0)]))
        self.never_shown(BOOK, PRICES, paper_with(0, []))
        self.never_shown(BOOK, PRICES, [[], [], []])

    def test_two_tuples_with_the_same_left(self):
        for at in (1, 2):
            for left, price in paper()[1]:
                for other in (price, price + 1, price - 1, price + 50):
                    self.never_shown(BOOK, PRICES, paper_with(at, paper()[at] + [(left, other)]))
                    self.never_shown(BOOK, PRICES, paper_with(at, [(left, other)] + paper()[at]))

    def test_one_left_in_several_layers_is_no_fault(self):
        book = book_of("t", [("s", 1), ("s", 1), ("s", 1)], [])
        self.shown(book, prices_of(book), [[((0,), 0)]] * 4, None)

    def test_a_step_whose_tuple_lacks(self):
        for at in (1, 2):
            for place in range(4):
                layer = paper()[at]
                layer.pop(place)
                self.never_shown(BOOK, PRICES, paper_with(at, layer))
            self.never_shown(BOOK, PRICES, paper_with(at, []))

    def test_a_step_whose_tuple_costs_more(self):
        for at in (1, 2):
            for place in range(4):
                layer = paper()[at]
                left, price = layer[place]
                layer[place] = (left, price + 1)
                self.never_shown(BOOK, PRICES, paper_with(at, layer))

    def test_a_last_layer_with_nothing_left_at_too_small_a_price(self):
        layer = paper()[2][:3] + [((), 5)]
        for price in (5, 4, 0):
            self.shown(BOOK, PRICES, paper_with(2, layer), price)
        for price in (6, 7, None):
            self.not_shown(BOOK, PRICES, paper_with(2, layer), price)

    def test_nothing_left_in_a_layer_ahead_of_the_last(self):
        # What a layer ahead tells of nothing left is asked of the last layer alone.
        layers = paper_with(1, paper()[1][:3] + [((), 2)])
        self.never_shown(BOOK, PRICES, layers)
        layers[2] = layers[2][:3] + [((), 2)]
        self.shown(BOOK, PRICES, layers, 2)
        self.not_shown(BOOK, PRICES, layers, 3)

    def test_less_prices_than_need_be(self):
        for place in range(3):
            layer = paper()[2]
            left, price = layer[place]
            layer[place] = (left, price - 9)
            self.shown(BOOK, PRICES, paper_with(2, layer), 6)
            self.not_shown(BOOK, PRICES, paper_with(2, layer), 7)

    def test_a_less_price_asks_for_less_ones_behind_it(self):
        layers = paper_with(1, [((0, 1), 0), ((1,), 0), ((0,), 5), ((), 6)])
        self.never_shown(BOOK, PRICES, layers)
        layers[2] = [((0, 1), 0), ((1,), 0), ((0,), 5), ((), 6)]
        self.never_shown(BOOK, PRICES, layers)
        layers[2][3] = ((), 5)
        self.shown(BOOK, PRICES, layers, 5)
        self.not_shown(BOOK, PRICES, layers, 6)

    def test_prices_below_nought(self):
        layers = [[((0, 1), 0)], [((0, 1), -7), ((1,), 4), ((0,), 5), ((), 6)], None]
        layers[2] = [((0, 1), -7), ((1,), 2), ((0,), -2), ((), 2)]
        self.shown(BOOK, PRICES, layers, 2)
        self.not_shown(BOOK, PRICES, layers, 3)
        layers[2][2] = ((0,), -1)
        self.never_shown(BOOK, PRICES, layers)

    def test_more_tuples_than_need_be(self):
        book = book_of("sss", [("s", 1), ("s", 2)], all_pairs(3))
        prices = prices_of(book)
        layers = all_layers(book, prices)
        self.shown(book, prices, layers, None)
        self.assertNotIn((), [left for left, price in layers[2]])
        layers[2].append(((), 77))
        self.shown(book, prices, layers, 77)
        self.not_shown(book, prices, layers, 78)
        self.not_shown(book, prices, layers, None)

    def test_a_tuple_that_need_not_be_has_its_steps_too(self):
        book = book_of("sss", [("s", 1), ("s", 2)], all_pairs(3))
        prices = prices_of(book)
        layers = all_layers(book, prices)
        layers[1].append(((2,), 5))
        self.never_shown(book, prices, layers)
        layers[2].append(((), 7))
        self.shown(book, prices, layers, 7)
        layers[2][-1] = ((), 8)
        self.never_shown(book, prices, layers)
        layers[2][-1] = ((), 7)
        layers[2] = [(left, 6 if left == (2,) else price) for left, price in layers[2]]
        self.never_shown(book, prices, layers)

    def test_a_player_who_takes_no_part_pays_no_hire(self):
        book = book_of("s", [("s", 3)], [])
        prices = ((3,), ((4,),))
        self.shown(book, prices, [[((0,), 0)], [((0,), 0), ((), 7)]], 7)
        self.never_shown(book, prices, [[((0,), 0)], [((0,), 3), ((), 7)]])
        self.never_shown(book, prices, [[((0,), 0)], [((0,), 0), ((), 8)]])
        self.never_shown(book, prices, [[((0,), 0)], [((), 7)]])

    def test_a_hire_once_for_all_parts_taken(self):
        book = book_of("ss", [("s", 3)], [])
        prices = ((3,), ((10, 100),))
        layers = [[((0, 1), 0)], [((0, 1), 0), ((1,), 13), ((0,), 103), ((), 113)]]
        self.shown(book, prices, layers, 113)
        self.not_shown(book, prices, layers, 114)
        layers[1][3] = ((), 116)
        self.never_shown(book, prices, layers)

    def test_prices_are_those_that_are_told_not_the_books(self):
        book = book_of("s", [("s", 3)], [])
        layers = [[((0,), 0)], [((0,), 0), ((), 7)]]
        self.shown(book, ((7,), ((0,),)), layers, 7)
        self.shown(book, ((0,), ((7,),)), layers, 7)
        self.never_shown(book, ((0,), ((6,),)), layers)
        self.never_shown(book, prices_of(book), layers)
        self.shown(book, ((9,), ((0,),)), layers, 7)

    def test_parts_whose_voice_the_player_has_not_are_not_taken(self):
        book = book_of("st", [("t", 3), ("su", 5)], [])
        layers = [[((0, 1), 0)], [((0, 1), 0), ((0,), 3)], [((0, 1), 0), ((0,), 3), ((1,), 5), ((), 8)]]
        self.shown(book, prices_of(book), layers, 8)
        self.not_shown(book, prices_of(book), layers, 9)
        self.never_shown(book, prices_of(book), [layers[0], layers[1][:1], layers[2]])
        for player in ("", "u", "uvw"):
            book = book_of("st", [(player, 0)], [])
            self.shown(book, prices_of(book), [[((0, 1), 0)], [((0, 1), 0)]], None)

    def test_parts_that_clash_are_not_taken(self):
        book = book_of("sss", [("s", 2)], [(0, 1), (1, 2)])
        last = [((0, 1, 2), 0), ((1, 2), 2), ((0, 2), 2), ((0, 1), 2), ((1,), 2)]
        self.shown(book, prices_of(book), [[((0, 1, 2), 0)], last], None)
        self.never_shown(book, prices_of(book), [[((0, 1, 2), 0)], last[:4]])
        free = book_of("sss", [("s", 2)], [(0, 1)])
        self.never_shown(free, prices_of(free), [[((0, 1, 2), 0)], last])

    def test_parts_that_clash_by_a_change_are_not_taken(self):
        rows = ["part k b 2 2", "part m b 2 2", "player a b 5"]
        layers = [[((0, 1), 0)], [((0, 1), 0), ((1,), 5), ((0,), 5)]]
        book = read_book(rows + ["scene x 1 3 m", "scene y 1 1 k"])
        self.shown(book, prices_of(book), layers, None)
        book = read_book(rows + ["scene x 1 4 m", "scene y 1 1 k"])
        self.never_shown(book, prices_of(book), layers)

    def test_a_paper_for_none_holds_for_any_price(self):
        book = book_of("ss", [("s", 3)], [(0, 1)])
        layers = [[((0, 1), 0)], [((0, 1), 0), ((1,), 3), ((0,), 3)]]
        for price in (None, -1, 0, 1, 99999999999999999999):
            self.shown(book, prices_of(book), layers, price)

    def test_a_book_without_parts(self):
        for players in range(4):
            book = book_of("", [("s", 3)] * players, [])
            layers = [[((), 0)] for layer in range(players + 1)]
            for price in (0, -1, -20):
                self.shown(book, prices_of(book), layers, price)
            for price in (1, 3, None):
                self.not_shown(book, prices_of(book), layers, price)
            self.never_shown(book, prices_of(book), layers + [[((), 0)]])
            self.never_shown(book, prices_of(book), layers[1:])
            self.never_shown(book, prices_of(book), [[((), 1)]] + layers[1:])
            self.never_shown(book, prices_of(book), [[]] * (players + 1))

    def test_a_book_without_players(self):
        book = book_of("st", [], [(0, 1)])
        for price in (None, -1, 0, 1, 77):
            self.shown(book, ((), ()), [[((0, 1), 0)]], price)
        for layers in ([], [[]], [[((0, 1), 1)]], [[((0,), 0)]], [[((), 0)]], [[((0, 1), 0), ((0,), 0)]],
                       [[((0, 1), 0)], [((0, 1), 0)]], [[((0, 1), 0), ((0, 1), 0)]]):
            self.never_shown(book, ((), ()), layers)


class TestTold(PaperTest):
    def is_paper(self, book, layers):
        self.assertEqual([layers.__class__, len(layers)], [list, len(book[1]) + 1])
        for layer in layers:
            self.assertIs(layer.__class__, list)
            for entry in layer:
                self.assertEqual([entry.__class__, len(entry)], [tuple, 2])
                left, price = entry
                self.assertEqual([left.__class__, price.__class__], [tuple, int])
                self.assertTrue(all([part.__class__ is int and 0 <= part < len(book[0]) for part in left]))
                self.assertEqual(left, tuple(sorted(set(left))))

    # The paper told shows the least price and no more, or that none plays.
    def told(self, book, prices):
        layers = paper_of(book, prices)
        least = told_least(book, prices)
        self.is_paper(book, layers)
        self.assertTrue(told_holds(book, prices, layers, least), (book, prices, layers))
        self.shown(book, prices, layers, least)
        if least is None:
            for price in (-1, 0, 1, 12345678901234567890):
                self.shown(book, prices, layers, price)
        else:
            self.shown(book, prices, layers, least - 1)
            self.not_shown(book, prices, layers, least + 1)
            self.not_shown(book, prices, layers, None)

    def test_two_players_for_two_parts(self):
        self.told(BOOK, PRICES)

    def test_books_without_parts_and_without_players(self):
        for voices in ("", "s", "st", "sss"):
            for players in ([], [("s", 3)], [("", 3), ("st", 0)]):
                book = book_of(voices, players, [])
                self.told(book, prices_of(book))
        self.same(paper_of(book_of("", [], []), ((), ())), [[((), 0)]])
        self.same(paper_of(book_of("ss", [], []), ((), ())), [[((0, 1), 0)]])

    def test_every_set_of_clashes_of_up_to_four_parts(self):
        spread = random.Random(20)
        for parts, players in itertools.product(range(5), range(4)):
            for mask in range(1 << len(all_pairs(parts))):
                clashes = [pair for at, pair in enumerate(all_pairs(parts)) if mask >> at & 1]
                own = [(spread.choice(["s", "t", "st"]), spread.randrange(9)) for player in range(players)]
                book = book_of([spread.choice("st") for part in range(parts)], own, clashes)
                self.told(book, prices_of(book))

    def test_drawn_books_of_up_to_six_parts_and_four_players(self):
        spread = random.Random(21)
        for at in range(60):
            book = drawn_book(spread, spread.randrange(7), spread.randrange(5))
            self.told(book, prices_of(book))
            kept = [spread.choice([None] + list(range(len(book[1])))) for part in book[0]]
            self.told(book, prices_of_change(book, kept))
            self.told(book, drawn_prices(spread, book, 30))

    def test_full_books(self):
        for clashes in ([], all_pairs(6), all_pairs(8), [(0, 7), (1, 6), (2, 5)]):
            book = book_of("ssssssss", [("s", 10 - at) for at in range(6)], clashes)
            least = least_of(book, prices_of(book))
            layers = paper_of(book, prices_of(book))
            self.is_paper(book, layers)
            price = None if least is None else least[0]
            self.shown(book, prices_of(book), layers, price)
            if price is not None:
                self.not_shown(book, prices_of(book), layers, price + 1)

    def test_great_prices(self):
        great = 99999999999999999999
        prices = ((great, great), ((great, great - 1), (great - 1, great)))
        self.told(book_of("ss", [("s", 0), ("s", 0)], [(0, 1)]), prices)


class TestAgainstTheWords(PaperTest):
    def test_drawn_papers(self):
        spread = random.Random(22)
        held = 0
        number = 1500
        for at in range(number):
            book = drawn_book(spread, spread.randrange(4), spread.randrange(4))
            prices = drawn_prices(spread, book, 5)
            layers = drawn_paper(spread, book, all_layers(book, prices))
            least = told_least(book, prices)
            for price in [None, 0] + ([] if least is None else [least - 1, least, least + 1]):
                wanted = told_holds(book, prices, layers, price)
                held += wanted
                if holds(book, prices, layers, price) is not wanted:
                    self.fail(f"{book} {prices} {layers} {price}")
        self.assertTrue(number // 2 < held < 3 * number, held)

    def test_what_a_paper_shows_is_so(self):
        spread = random.Random(23)
        held = 0
        for at in range(250):
            book = drawn_book(spread, spread.randrange(1, 7), spread.randrange(1, 5))
            prices = drawn_prices(spread, book, 6)
            least = told_least(book, prices)
            for layers in [drawn_paper(spread, book, paper_of(book, prices)) for other in range(4)]:
                for price in [None] + list(range(0, 40, 3)) + ([] if least is None else [least, least + 1]):
                    if holds(book, prices, layers, price):
                        held += 1
                        self.assertTrue(least is None or price is not None and price <= least, (book, layers, price))
        self.assertTrue(held > 1000, held)


class TestHandedIn(PaperTest):
    def test_paper_book_and_prices_stay_as_they_were(self):
        spread = random.Random(24)
        for at in range(60):
            book = drawn_book(spread, 4, 3)
            prices = drawn_prices(spread, book, 9)
            layers = drawn_paper(spread, book, all_layers(book, prices))
            kept = repr((book, prices, layers))
            for price in (None, 0, 5, 50):
                holds(book, prices, layers, price)
            paper_of(book, prices)
            self.assertEqual(repr((book, prices, layers)), kept)

    def test_the_lists_are_the_askers_own(self):
        for book in [book_of("", [], []), book_of("s", [], []), book_of("", [("s", 1)], []), BOOK,
                     book_of("tt", [("s", 1), ("s", 1)], [])]:
            prices = prices_of(book)
            first = paper_of(book, prices)
            second = paper_of(book, prices)
            kept = repr(first)
            self.assertEqual(len(set([id(layer) for layer in first])), len(first))
            for layer in first:
                layer.append("else")
            first.append("else")
            self.assertEqual(repr(second), kept)
            self.assertEqual(repr(paper_of(book, prices)), kept)

    def test_a_paper_is_looked_at_anew_each_time(self):
        layers = paper()
        self.shown(BOOK, PRICES, layers, 6)
        layers[2].pop()
        self.never_shown(BOOK, PRICES, layers)
        layers[2].append(((), 6))
        self.shown(BOOK, PRICES, layers, 6)


if __name__ == "__main__":
    unittest.main()
