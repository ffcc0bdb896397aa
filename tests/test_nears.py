"""Near lines: heardagain.nears, [G6] to [G8]."""

import random
import unittest
from itertools import combinations

from heardagain.nears import near, near_holds, near_paper, near_price
from tests.helper import ODD_VALUES, check_call, check_examples, same

EXAMPLES = """
    >>> from heardagain.nears import near, near_holds, near_paper, near_price
    >>> sung, heard, prices = (60, 62, 64), (67, 70, 69, 71), (5, 2, 3)
    >>> near(sung, heard, prices)
    (2, 7, 0, 4)
    >>> [near_price(sung, heard, prices, v) for v in (7, 0, 9, -200)]
    [2, 9, 5, 9]
    >>> near((60,), (), prices), near((60, 60), (1,), (1, 9, 0))[0], near_price((60, 60), (60,), (9, 9, 9), 0)
    ((5, 0, 0, 0), 1, 9)
    >>> paper = near_paper(sung, heard, prices)
    >>> [v for v, table in paper], paper[0][1]
    ([3, 5, 6, 7, 8, 9, 10, 11, None], ((9, 9, 11, 13, 15), (5, 6, 6, 8, 10), (0, 3, 3, 3, 5), (0, 0, 0, 0, 0)))
    >>> near_holds(sung, heard, prices, 2, paper), near_holds(sung, heard, prices, 3, paper), near_holds(sung, heard, prices, 2, paper[:-1])
    (True, False, False)
    >>> near_holds(sung, heard, prices, -1, ((None, ((0,) * 5,) * 4),)), near_paper((60,), (), prices), near_holds((60,), (), prices, 5, [(None, ((5,), (0,)))])
    (False, ((None, ((5,), (0,))),), False)
"""

SUNG, HEARD, PRICES = (60, 62, 64), (67, 70, 69, 71), (5, 2, 3)
HUGE = 10 ** 399


def told_price(pitches, items, prices, v):
    """Return the least price of a near way that leads pitches into a run with these items, going through all of them.

    v is None for an integer that is no difference.
    """
    left, put, changed = prices
    found = []
    for many in range(min(len(pitches), len(items)) + 1):
        for some in combinations(pitches, many):
            for goals in combinations(items, many):
                unlike = sum(1 for pitch, goal in zip(some, goals) if v is None or goal != pitch + v)
                found.append((len(pitches) - many) * left + (len(items) - many) * put + unlike * changed)
    return min(found)


def stepwise(pitches, items, prices, v):
    """Return the least price of a near way that leads pitches into the run with just these items, from its begin on."""
    left, put, changed = prices
    row = [put * many for many in range(len(items) + 1)]
    for pitch in pitches:
        further = [row[0] + left]
        for at, item in enumerate(items):
            further.append(min(row[at + 1] + left, further[-1] + put, row[at] + (0 if item == pitch + v else changed)))
        row = further
    return row[-1]


def told_runs(others):
    """Return all runs, each by its begin and its end."""
    return [(begin, end) for begin in range(len(others) + 1) for end in range(begin, len(others) + 1)]


def told_least(pitches, others, prices, v):
    """Return the least price of a near way for v, over all runs."""
    return min(told_price(pitches, others[begin:end], prices, v) for begin, end in told_runs(others))


def told_differences(pitches, others):
    """Return all differences, ascending."""
    return sorted({other - pitch for pitch in pitches for other in others})


def told_paper(pitches, others, prices):
    """Return the paper, each item by going through all near ways from there on."""
    paper = []
    for v in told_differences(pitches, others) + [None]:
        table = [tuple([min(told_price(pitches[i:], others[j:end], prices, v) for end in range(j, len(others) + 1))
                        for j in range(len(others) + 1)]) for i in range(len(pitches) + 1)]
        paper.append((v, tuple(table)))
    return tuple(paper)


def some_lines(many, seed, most=4):
    """Return so many triples of pitches, others and prices; much of the pitches is heard in the others."""
    dice = random.Random(seed)
    found = []
    while len(found) < many:
        high = dice.choice((2, 4, 12))
        pitches = tuple([60 + dice.randrange(high) for _ in range(dice.randint(1, most))])
        others = tuple([50 + dice.randrange(high) for _ in range(dice.randint(0, most))])
        if dice.random() < 0.5:
            row = [pitch + dice.choice((5, 5, 5, 6)) for pitch in pitches if dice.random() < 0.8]
            row.insert(dice.randint(0, len(row)), 65)
            others = tuple(row[:most])
        prices = tuple([dice.choice((0, 1, 2, 3, 5, 9)) for _ in range(3)])
        found.append((pitches, others, prices))
    return found


def lines_with_edges(many, seed):
    """Return lines as above, and ones with each price 0 or 9, changes dearer than the others together, and no others."""
    found = some_lines(many, seed)
    for prices in ((0, 0, 0), (9, 9, 9), (0, 9, 9), (9, 0, 9), (9, 9, 0), (1, 1, 3), (2, 1, 9), (1, 2, 4), (0, 0, 1)):
        found.extend([(pitches, others, prices) for pitches, others, _ in some_lines(6, seed + 1)])
        found.extend([((60,), (), prices), ((60, 62, 60), (), prices), ((60,), (60,), prices), ((0,), (127, 0), prices),
                      ((127, 0), (0, 127), prices), ((5, 5, 5), (5, 5), prices), ((5,), (7, 5, 7, 7), prices)])
    return found


class ExamplesTest(unittest.TestCase):
    def test_examples(self):
        self.assertEqual(check_examples(self, EXAMPLES), 6)


class NearPriceTest(unittest.TestCase):
    def test_beside_all_near_ways(self):
        for pitches, others, prices in lines_with_edges(150, 1):
            told = told_differences(pitches, others)
            for v in sorted(set([0] + told)):
                check_call(self, near_price, told_least(pitches, others, prices, v), pitches=pitches, others=others,
                           prices=prices, v=v)
            for v in (-200, 200, 129, -1000, HUGE, -HUGE):
                self.assertNotIn(v, told)
                check_call(self, near_price, told_least(pitches, others, prices, None), pitches=pitches, others=others,
                           prices=prices, v=v)

    def test_the_run_without_items(self):
        # To leave out all is cheaper than all else, and nothing is put in then.
        check_call(self, near_price, 3, pitches=(60, 62, 64), others=(1, 2, 3), prices=(1, 9, 9), v=0)
        check_call(self, near_price, 0, pitches=(60, 62, 64), others=(1, 2, 3), prices=(0, 9, 9), v=5)
        for many in (1, 2, 24):
            check_call(self, near_price, 5 * many, pitches=(60,) * many, others=(), prices=PRICES, v=0)

    def test_changed_dearer_than_left_and_put(self):
        # 61 is left out and 90 put in, rather than that one is changed into the other one.
        check_call(self, near_price, 2, pitches=(60, 61, 62), others=(60, 90, 62), prices=(1, 1, 9), v=0)
        check_call(self, near_price, 2, pitches=(60, 61, 62), others=(60, 90, 62), prices=(1, 1, 2), v=0)
        check_call(self, near_price, 1, pitches=(60, 61, 62), others=(60, 90, 62), prices=(1, 1, 1), v=0)

    def test_24_pitches_and_24_others(self):
        dice = random.Random(2)
        pitches = tuple([dice.randint(0, 100) for _ in range(24)])
        check_call(self, near_price, 0, pitches=pitches, others=tuple([pitch + 27 for pitch in pitches]), prices=PRICES,
                   v=27)
        check_call(self, near_price, 24 * 3, pitches=(60,) * 24, others=(70,) * 24, prices=PRICES, v=9)
        check_call(self, near_price, 0, pitches=(60,) * 24, others=(70,) * 24, prices=PRICES, v=10)
        # One is put in the middle, one left out, and so the last one is not needed.
        others = pitches[:10] + (127,) + pitches[10:20] + pitches[21:]
        self.assertEqual(len(others), 24)
        check_call(self, near_price, 7, pitches=pitches, others=others, prices=(4, 3, 9), v=0)
        check_call(self, near_price, 0, pitches=(60,), others=(1,) * 23 + (65,), prices=(9, 9, 9), v=5)
        check_call(self, near_price, 9 * 23, pitches=(60,) * 24, others=(60,), prices=(9, 9, 9), v=0)


class NearTest(unittest.TestCase):
    def check_near(self, pitches, others, prices):
        """Check that what near tells is one of the quadruples that will do; return it."""
        told = near(pitches, others, prices)
        check_call(self, near, told, pitches=pitches, others=others, prices=prices)
        self.assertEqual([type(told)] + [type(item) for item in told], [tuple] + [int] * 4)
        price, v, begin, end = told
        self.assertIn(v, [0] + told_differences(pitches, others))
        self.assertTrue(0 <= begin <= end <= len(others))
        self.assertEqual(near_price(pitches, others, prices, v), price)
        return told

    def test_least_of_all(self):
        for pitches, others, prices in lines_with_edges(200, 3):
            price, v, begin, end = self.check_near(pitches, others, prices)
            differences = told_differences(pitches, others)
            self.assertEqual(price, min(told_least(pitches, others, prices, v) for v in [0, None] + differences))
            self.assertEqual(price, min(near_price(pitches, others, prices, v) for v in [0, 999] + differences))
            self.assertEqual(told_price(pitches, others[begin:end], prices, v), price)

    def test_greater_prices(self):
        for pitches, others, prices in some_lines(100, 4):
            price = near(pitches, others, prices)[0]
            for place in range(3):
                if prices[place] < 9:
                    dearer = prices[:place] + (prices[place] + 1,) + prices[place + 1:]
                    self.assertGreaterEqual(near(pitches, others, dearer)[0], price)

    def test_long_lines(self):
        dice = random.Random(5)
        for _ in range(6):
            pitches = tuple([dice.randint(0, 90) for _ in range(24)])
            others = [pitch + 30 for pitch in pitches[:dice.randint(12, 24)]]
            for _ in range(24 - len(others)):
                others.insert(dice.randint(0, len(others)), dice.randint(0, 127))
            prices = tuple([dice.randint(1, 9) for _ in range(3)])
            price, v, begin, end = self.check_near(pitches, tuple(others), prices)
            self.assertEqual(price, stepwise(pitches, others[begin:end], prices, v))

    def test_put_in_left_out_and_changed_on_the_way(self):
        sung = (60, 62, 64, 65, 67, 60, 72)
        for heard, prices, wanted in (((67, 70, 69, 71, 72, 74, 67, 79), (5, 2, 3), (2, 7, 0, 8)),
                                      ((67, 1, 3, 69, 71, 72, 74, 67, 79), (5, 2, 9), (4, 7, 0, 9)),
                                      ((1, 67, 69, 71, 72, 74, 67, 4, 79, 3), (5, 2, 3), (2, 7, 1, 9)),
                                      ((1, 67, 71, 72, 74, 67, 79, 3), (2, 5, 3), (2, 7, 1, 7)),
                                      ((1, 67, 69, 30, 72, 74, 67, 79, 3), (5, 5, 3), (3, 7, 1, 8))):
            self.assertEqual(self.check_near(sung, heard, prices), wanted)

    def test_ends_of_the_pitches(self):
        self.assertEqual(self.check_near((0, 127), (127, 0), (9, 9, 9))[0], 9)
        self.assertEqual(self.check_near((0,), (127,), (9, 9, 9)), (0, 127, 0, 1))
        self.assertEqual(self.check_near((127,), (0,), (9, 9, 9)), (0, -127, 0, 1))
        self.assertEqual(self.check_near((127,), (), (9, 9, 9)), (9, 0, 0, 0))


class NearPaperTest(unittest.TestCase):
    def test_beside_all_near_ways(self):
        for pitches, others, prices in lines_with_edges(80, 6):
            check_call(self, near_paper, told_paper(pitches, others, prices), pitches=pitches, others=others,
                       prices=prices)

    def test_form(self):
        for pitches, others, prices in some_lines(60, 7, 7):
            paper = near_paper(pitches, others, prices)
            self.assertEqual([v for v, _ in paper], told_differences(pitches, others) + [None])
            for v, table in paper:
                self.assertEqual([len(row) for row in table], [len(others) + 1] * (len(pitches) + 1))
                self.assertEqual(table[-1], (0,) * (len(others) + 1))
                self.assertEqual(min(table[0]), near_price(pitches, others, prices, 999 if v is None else v))

    def test_no_others(self):
        for many in range(1, 25):
            wanted = ((None, tuple([(5 * left,) for left in range(many, -1, -1)])),)
            check_call(self, near_paper, wanted, pitches=(60,) * many, others=(), prices=PRICES)

    def test_lets_by_the_least_price_and_none_above(self):
        for pitches, others, prices in lines_with_edges(80, 8) + some_lines(20, 9, 24):
            paper = near_paper(pitches, others, prices)
            price = near(pitches, others, prices)[0]
            for less in (0, 1, 2, 50, 10 ** 9, HUGE):
                check_call(self, near_holds, True, pitches=pitches, others=others, prices=prices, price=price - less,
                           value=paper)
            for more in (1, 2, 50, HUGE):
                check_call(self, near_holds, False, pitches=pitches, others=others, prices=prices, price=price + more,
                           value=paper)


def told_holds(pitches, others, prices, price, value):
    """Return whether a value whose form is right holds, as the rows of [G8] tell it."""
    left, put, changed = prices
    n, m = len(pitches), len(others)
    for v, table in value:
        for i in range(n):
            for j in range(m + 1):
                if not table[i][j] <= left + table[i + 1][j]:
                    return False
                if j < m and not table[i][j] <= put + table[i][j + 1]:
                    return False
                more = changed if v is None or others[j:j + 1] != (pitches[i] + v,) else 0
                if j < m and not table[i][j] <= table[i + 1][j + 1] + more:
                    return False
        if max(table[n]) > 0 or min(table[0]) < price:
            return False
    return True


def with_item(value, place, row, column, item):
    """Return a paper with another item in a table."""
    v, table = value[place]
    cells = table[row][:column] + (item,) + table[row][column + 1:]
    return value[:place] + ((v, table[:row] + (cells,) + table[row + 1:]),) + value[place + 1:]


class NearHoldsTest(unittest.TestCase):
    def check(self, wanted, value, price=2, pitches=SUNG, others=HEARD, prices=PRICES):
        check_call(self, near_holds, wanted, pitches=pitches, others=others, prices=prices, price=price, value=value)

    def test_each_item_greater_or_less_by_one(self):
        seen = {}
        for pitches, others, prices in [(SUNG, HEARD, PRICES)] + some_lines(12, 10, 3) + [((60,), (), (5, 2, 3))]:
            paper = near_paper(pitches, others, prices)
            price = near(pitches, others, prices)[0]
            for place, (_, table) in enumerate(paper):
                for row in range(len(table)):
                    for column in range(len(table[0])):
                        for more in (1, -1, 9, -9):
                            value = with_item(paper, place, row, column, table[row][column] + more)
                            wanted = told_holds(pitches, others, prices, price, value)
                            self.check(wanted, value, price, pitches, others, prices)
                            seen[row == 0, row == len(table) - 1, more > 0, wanted] = True
                            if more > 0:
                                # Each item is the greatest one that the ones behind it let.
                                self.assertFalse(wanted)
        for row in ((True, False), (False, True), (False, False)):
            for more, wanted in ((True, False), (False, False), (False, True)):
                if row + (more, wanted) != (False, True, False, True):
                    self.assertIn(row + (more, wanted), seen)

    def test_each_kind_of_place(self):
        # Only one of the three lets an item be no greater: left out, put in, changed or kept.
        base = ((3, ((3, 9), (0, 0))), (None, ((9, 9), (0, 0))))
        self.check(False, base, 0, (60,), (63,), (9, 9, 9))
        self.check(True, ((3, ((0, 9), (0, 0))), (None, ((9, 9), (0, 0)))), 0, (60,), (63,), (9, 9, 9))
        self.check(False, ((3, ((1, 9), (0, 0))), (None, ((9, 9), (0, 0)))), 0, (60,), (63,), (9, 9, 9))
        self.check(False, ((3, ((0, 9), (0, 0))), (None, ((10, 9), (0, 0)))), 0, (60,), (63,), (9, 9, 9))
        self.check(False, ((3, ((0, 10), (0, 0))), (None, ((9, 9), (0, 0)))), 0, (60,), (63,), (9, 9, 9))
        # changed is the least of the three.
        self.check(True, ((3, ((0, 9), (0, 0))), (None, ((4, 9), (0, 0)))), 0, (60,), (63,), (9, 9, 4))
        self.check(False, ((3, ((0, 9), (0, 0))), (None, ((5, 9), (0, 0)))), 0, (60,), (63,), (9, 9, 4))
        # put, ahead of what the next column has.
        self.check(True, ((3, ((0, 0), (0, 0))), (None, ((2, 0), (0, 0)))), 0, (60,), (63,), (9, 2, 4))
        self.check(False, ((3, ((0, 0), (0, 0))), (None, ((3, 0), (0, 0)))), 0, (60,), (63,), (9, 2, 4))
        # left out, in the last column and ahead of it.
        self.check(True, ((3, ((0, 1), (0, 0))), (None, ((1, 1), (0, 0)))), 0, (60,), (63,), (1, 9, 9))
        self.check(False, ((3, ((0, 1), (0, 0))), (None, ((1, 2), (0, 0)))), 0, (60,), (63,), (1, 9, 9))
        self.check(False, ((3, ((0, 1), (0, 0))), (None, ((2, 1), (0, 0)))), 0, (60,), (63,), (1, 9, 9))

    def test_drawn_tables(self):
        dice = random.Random(11)
        for pitches, others, prices in some_lines(150, 12, 3):
            paper = near_paper(pitches, others, prices)
            price = near(pitches, others, prices)[0]
            value = paper
            for _ in range(dice.randint(1, 4)):
                place = dice.randrange(len(paper))
                row, column = dice.randrange(len(pitches) + 1), dice.randrange(len(others) + 1)
                value = with_item(value, place, row, column, value[place][1][row][column] + dice.randint(-3, 1))
            for less in (0, 1, 3, 9):
                self.check(told_holds(pitches, others, prices, price - less, value), value, price - less, pitches,
                           others, prices)

    def test_items_below_0(self):
        paper = near_paper(SUNG, HEARD, PRICES)
        low = tuple([(v, tuple([tuple([item - 40 for item in row]) for row in table])) for v, table in paper])
        self.check(True, low, -38)
        self.check(False, low, -37)
        self.check(True, low, -HUGE)
        deep = tuple([(v, tuple([tuple([item - HUGE for item in row]) for row in table])) for v, table in paper])
        self.check(True, deep, 2 - HUGE)
        self.check(False, deep, 3 - HUGE)

    def test_row_n_and_row_0(self):
        paper = near_paper(SUNG, HEARD, PRICES)
        for place in range(len(paper)):
            for column in range(5):
                self.check(False, with_item(paper, place, 3, column, 1))
            # A whole row 0 of the price, and of one less.
            v, table = paper[place]
            for price in (2, 1, 0, -50):
                value = paper[:place] + ((v, ((price,) * 5,) + table[1:]),) + paper[place + 1:]
                self.check(True, value, price)
                self.check(False, value, price + 1)
                for column in range(5):
                    self.check(False, with_item(value, place, 0, column, price - 1), price)

    def test_v_left_out_twice_and_in_another_order(self):
        paper = near_paper(SUNG, HEARD, PRICES)
        for price in (2, 0, -100, -HUGE):
            self.check(True, paper, price)
            for place in range(len(paper)):
                self.check(False, paper[:place] + paper[place + 1:], price)
                self.check(False, paper[:place] + paper[place:place + 1] + paper[place:], price)
                self.check(False, paper[:place] + ((4, paper[0][1]),) + paper[place + 1:], price)
            self.check(False, paper[::-1], price)
            self.check(False, paper[-1:] + paper[:-1], price)
            self.check(False, (paper[1], paper[0]) + paper[2:], price)
            self.check(False, paper + paper, price)
            self.check(False, (), price)
            self.check(False, paper[-1:], price)
            self.check(False, ((-4, paper[0][1]),) + paper, price)
            self.check(False, paper[:-1] + ((0, paper[-1][1]),), price)

    def test_lists_in_the_place_of_tuples(self):
        paper = near_paper(SUNG, HEARD, PRICES)
        for price in (2, -100):
            self.check(False, list(paper), price)
            for place, (v, table) in enumerate(paper):
                for pair in ([v, table], (v, list(table)), (v, table[:1] + ([*table[1]],) + table[2:]),
                             (v, tuple([list(row) for row in table])), (v, {0: table}), (v, table, table), (v,), v, table,
                             (v, table[:-1]), (v, table + table[-1:]), (v, tuple([row[:-1] for row in table])),
                             (v, tuple([row + (0,) for row in table])), (v, table[:2] + (table[2][:-1],) + table[3:]),
                             (v, table[:2] + (table[2] + (0,),) + table[3:]), (table, v), (str(v), table), ((v,), table),
                             (v, None), (v, ()), (v, ((),) * 4)):
                    self.check(False, paper[:place] + (pair,) + paper[place + 1:], price)

    def test_true_is_not_1(self):
        pitches, others = (60, 61), (60, 62)
        paper = near_paper(pitches, others, (1, 1, 1))
        self.assertEqual([v for v, _ in paper], [-1, 0, 1, 2, None])
        self.check(True, paper, -5, pitches, others, (1, 1, 1))
        for place, (v, table) in enumerate(paper):
            for odd in (True, False, None):
                if not same(odd, v):
                    value = paper[:place] + ((odd, table),) + paper[place + 1:]
                    self.check(False, value, -5, pitches, others, (1, 1, 1))
            for row in range(3):
                for column in range(3):
                    for odd in (True, False, None, "0", (), [], [0], {}):
                        value = with_item(paper, place, row, column, odd)
                        self.check(False, value, -5, pitches, others, (1, 1, 1))

    def test_values_of_all_kinds(self):
        for value in ODD_VALUES + (((),) * 9, (None,) * 9, ("abc",) * 9, ({},) * 9, (((), ()),) * 9, "x" * 9, [()] * 9):
            for price in (2, 0, -5, -HUGE):
                self.check(False, value, price)
        self.check(True, ((None, ((5,), (0,))),), 5, (60,), ())
        for value in ODD_VALUES:
            self.check(False, value, -5, (60,), ())
            self.check(False, (value,), -5, (60,), ())
            self.check(False, ((None, value),), -5, (60,), ())
            if value is not None:
                self.check(False, ((value, ((5,), (0,))),), -5, (60,), ())
            if value not in (0, 1, -1, 7, -10 ** 399, 10 ** 399) or isinstance(value, bool):
                self.check(False, ((None, ((value,), (0,))),), -HUGE - HUGE, (60,), ())


if __name__ == "__main__":
    unittest.main()
