import copy
import math
import random
import unittest
from fractions import Fraction
from itertools import permutations

from groupbooks.errors import Singular
from groupbooks.holders import shares_of, strangers_of
from groupbooks.rounds import mix_good, paper_good, paper_of, square_of

LONG = 10 ** 60 - 1


def sums_of(square, numbers):
    """Place by place, the lists of the square taken so many times each."""
    return [sum(numbers[j] * square[j][i] for j in range(len(square))) for i in range(len(square))]


def sign_of(order):
    return (-1) ** sum(order[i] > order[j] for j in range(len(order)) for i in range(j))


def determinant(square):
    """Over all orders of the places, so by another way than the program's."""
    places = range(len(square))
    return sum(sign_of(order) * math.prod(square[i][order[i]] for i in places) for order in permutations(places))


def some_square(source, many, most):
    return [[source.randint(-most, most) for place in range(many)] for row in range(many)]


def singular_square(source, many, most):
    """A square one list of which is a mix of the others."""
    square = some_square(source, many, most)
    at = source.randrange(many)
    square[at] = [0] * many
    mix = [source.randint(-3, 3) for place in range(many)]
    square[at] = sums_of(square, mix)
    return square


def many_squares():
    source = random.Random(33)
    squares = [some_square(source, many, most) for most in (1, 2, 9, 10 ** 6) for many in range(6) for turn in range(15)]
    return squares + [some_square(source, 6, most) for most in (1, 9, LONG) for turn in range(4)]


def many_singular_squares():
    source = random.Random(34)
    return [singular_square(source, many, most) for most in (2, 9, LONG) for many in range(1, 7) for turn in range(10)]


class RoundsTest(unittest.TestCase):
    def assert_paper(self, square, paper):
        """Every word of [33], by the test's own reckoning."""
        self.assertIsInstance(paper, list)
        self.assertEqual(len(paper), len(square))
        for place, pair in enumerate(paper):
            self.assertIsInstance(pair, tuple)
            d, row = pair
            self.assertIsInstance(row, list)
            self.assertEqual(len(row), len(square))
            self.assertTrue(all(isinstance(number, int) and not isinstance(number, bool) for number in row + [d]))
            self.assertGreaterEqual(d, 1)
            self.assertEqual(math.gcd(d, *row), 1)
            self.assertEqual(sums_of(square, row), [d if at == place else 0 for at in range(len(square))])

    def assert_singular(self, square):
        with self.assertRaises(Singular) as taken:
            paper_of(square)
        mix = taken.exception.mix
        self.assertIsInstance(mix, list)
        self.assertEqual(len(mix), len(square))
        self.assertTrue(any(mix))
        self.assertEqual(sums_of(square, mix), [0] * len(square))
        self.assertIs(mix_good(square, mix), True)
        return mix


class TestSquareOf(unittest.TestCase):
    def test_the_example(self):
        rows = [("b", "a", 9), ("x", "a", 1), ("a", "b", 9), ("x", "b", 1)]
        self.assertEqual(square_of(["a", "b"], rows), [[10, -9], [-9, 10]])

    def test_row_and_place(self):
        rows = [("a", "b", 2), ("x", "b", 3), ("x", "a", 7)]
        self.assertEqual(square_of(["a", "b"], rows), [[7, 0], [-2, 5]])
        self.assertEqual(square_of(["b", "a"], rows), [[5, -2], [0, 7]])

    def test_several_rows_of_one_pair(self):
        rows = [("a", "b", 2), ("x", "b", 3), ("a", "b", 5), ("x", "a", 1), ("x", "a", 1)]
        self.assertEqual(square_of(["a", "b"], rows), [[2, 0], [-7, 10]])

    def test_a_firm_that_holds_of_itself(self):
        rows = [("a", "a", 4), ("x", "a", 1), ("a", "a", 2)]
        self.assertEqual(square_of(["a"], rows), [[1]])
        self.assertEqual(square_of(["a"], [("a", "a", 4)]), [[0]])

    def test_no_firms(self):
        self.assertEqual(square_of([], []), [])
        self.assertEqual(square_of([], [("x", "a", 4)]), [])

    def test_tables_that_are_refused(self):
        self.assertEqual(square_of(["a"], [("x", "q", 4), ("x", "a", 2)]), [[2]])
        self.assertEqual(square_of(["a", "b"], [("x", "a", -4), ("b", "a", 0), ("a", "b", -3)]), [[-4, 0], [3, -3]])
        self.assertEqual(square_of(["a", "b"], [("x", "a", 4)]), [[4, 0], [0, 0]])
        self.assertEqual(square_of(["a", "b"], [("a", "b", 1), ("b", "a", 1)]), [[1, -1], [-1, 1]])

    def test_rows_come_to_the_strangers_shares(self):
        source = random.Random(32)
        for turn in range(200):
            firms = source.sample("abcdef", source.randint(0, 6))
            rows = []
            for row in range(source.randint(0, 20)):
                rows.append((source.choice("abcdefxy"), source.choice("abcdefg"), source.randint(-2, 9)))
            square = square_of(firms, rows)
            self.assertEqual([len(numbers) for numbers in square], [len(firms)] * len(firms))
            for firm, numbers in zip(firms, square):
                held = [shares_of(rows, stranger, firm) for stranger in strangers_of(firms, rows)]
                self.assertEqual(sum(numbers), sum(held))

    def test_what_is_handed_in_stays_and_what_is_told_is_new(self):
        firms, rows = ["a", "b"], [("a", "b", 2), ("x", "b", 3), ("x", "a", 7)]
        square = square_of(firms, rows)
        self.assertEqual((firms, rows), (["a", "b"], [("a", "b", 2), ("x", "b", 3), ("x", "a", 7)]))
        square[0].clear()
        square.pop()
        self.assertEqual(square_of(firms, rows), [[7, 0], [-2, 5]])


class TestPaperOf(RoundsTest):
    def test_the_example(self):
        self.assertEqual(paper_of([[10, -9], [-9, 10]]), [(19, [10, 9]), (19, [9, 10])])

    def test_no_lists(self):
        self.assertEqual(paper_of([]), [])

    def test_one_list(self):
        self.assertEqual(paper_of([[1]]), [(1, [1])])
        self.assertEqual(paper_of([[6]]), [(6, [1])])
        self.assertEqual(paper_of([[-6]]), [(6, [-1])])
        self.assertEqual(paper_of([[LONG]]), [(LONG, [1])])

    def test_lists_are_taken_not_columns(self):
        # (1, 2) times row[0] and (0, 1) times row[1].
        self.assertEqual(paper_of([[1, 2], [0, 1]]), [(1, [1, -2]), (1, [0, 1])])
        self.assertEqual(paper_of([[2, 0], [3, 5]]), [(2, [1, 0]), (10, [-3, 2])])

    def test_each_pair_has_lowest_terms_of_its_own(self):
        self.assertEqual(paper_of([[2, 0], [0, 3]]), [(2, [1, 0]), (3, [0, 1])])
        self.assertEqual(paper_of([[4, 2], [2, 4]]), [(6, [2, -1]), (6, [-1, 2])])

    def test_a_nought_at_the_first_place(self):
        self.assertEqual(paper_of([[0, 1], [1, 0]]), [(1, [0, 1]), (1, [1, 0])])
        self.assertEqual(paper_of([[0, 2], [3, 0]]), [(3, [0, 1]), (2, [1, 0])])
        self.assert_paper([[0, 0, 5], [0, 3, 1], [7, 1, 2]], paper_of([[0, 0, 5], [0, 3, 1], [7, 1, 2]]))

    def test_noughts_everywhere_but_at_one_place_a_list(self):
        for many in range(1, 7):
            for order in list(permutations(range(many)))[:40]:
                square = [[-3 if at == order[row] else 0 for at in range(many)] for row in range(many)]
                self.assert_paper(square, paper_of(square))

    def test_any_square_has_a_paper_or_a_mix(self):
        papers, mixes = 0, 0
        for square in many_squares():
            if determinant(square) == 0:
                self.assert_singular(square)
                mixes += 1
            else:
                self.assert_paper(square, paper_of(square))
                papers += 1
        self.assertGreater(papers, 100)
        self.assertGreater(mixes, 20)

    def test_sixty_figures_either_way(self):
        source = random.Random(60)
        for many in range(1, 7):
            square = [[source.choice([-1, 1]) * source.randint(LONG // 10, LONG) for at in range(many)] for row in range(many)]
            self.assert_paper(square, paper_of(square))
        self.assert_paper([[LONG, -LONG], [LONG, LONG]], paper_of([[LONG, -LONG], [LONG, LONG]]))

    def test_somewhat_more_lists(self):
        square = some_square(random.Random(8), 8, 10 ** 6)
        self.assert_paper(square, paper_of(square))

    def test_the_square_handed_in_stays(self):
        for square in many_squares()[::7] + many_singular_squares()[::7]:
            handed = copy.deepcopy(square)
            try:
                paper_of(handed)
            except Singular:
                pass
            self.assertEqual(handed, square)

    def test_what_is_told_is_the_asker_s_own(self):
        square = [[10, -9], [-9, 10]]
        paper = paper_of(square)
        square[0][0] = 11
        self.assertEqual(paper, [(19, [10, 9]), (19, [9, 10])])
        paper[0][1].clear()
        self.assertEqual(paper[1], (19, [9, 10]))
        paper.clear()
        square[0][0] = 10
        self.assertEqual(paper_of(square), [(19, [10, 9]), (19, [9, 10])])


class TestSingular(RoundsTest):
    def test_noughts_alone(self):
        for many in range(1, 7):
            self.assert_singular([[0] * many for row in range(many)])

    def test_two_lists_alike(self):
        for many in range(2, 7):
            square = some_square(random.Random(many), many, 9)
            for at in range(1, many):
                alike = list(square)
                alike[at] = list(square[0])
                mix = self.assert_singular(alike)
                self.assertEqual([number for place, number in enumerate(mix) if place not in (0, at)], [0] * (many - 2))

    def test_a_list_of_noughts(self):
        for many in range(1, 7):
            for at in range(many):
                square = some_square(random.Random(many), many, 9)
                square[at] = [0] * many
                self.assert_singular(square)

    def test_a_place_of_noughts(self):
        for many in range(1, 7):
            for at in range(many):
                square = some_square(random.Random(many), many, 9)
                for numbers in square:
                    numbers[at] = 0
                self.assert_singular(square)

    def test_lists_that_hang_together(self):
        self.assert_singular([[1, 2], [2, 4]])
        self.assert_singular([[1, -1], [-1, 1]])
        self.assert_singular([[1, 2, 3], [4, 5, 6], [7, 8, 9]])
        for square in many_singular_squares():
            self.assert_singular(square)

    def test_behind_a_refusal(self):
        square = [[1, 1], [1, 1]]
        self.assert_singular(square).clear()
        self.assert_singular(square)
        square[1][1] = 2
        self.assertEqual(paper_of(square), [(1, [2, -1]), (1, [-1, 1])])


class TestPaperGood(RoundsTest):
    def test_papers_that_hold(self):
        self.assertIs(paper_good([[10, -9], [-9, 10]], [(19, [10, 9]), (19, [9, 10])]), True)
        self.assertIs(paper_good([], []), True)
        for square in many_squares():
            if determinant(square) != 0:
                self.assertIs(paper_good(square, paper_of(square)), True)

    def test_lowest_terms_are_not_asked(self):
        self.assertIs(paper_good([[10, -9], [-9, 10]], [(38, [20, 18]), (19, [9, 10])]), True)
        self.assertIs(paper_good([[10, -9], [-9, 10]], [(19, [10, 9]), (19 * LONG, [9 * LONG, 10 * LONG])]), True)

    def test_changed_at_one_place(self):
        square = [[10, -9, 0], [-9, 10, 0], [-2, -3, 7]]
        paper = paper_of(square)
        for place in range(3):
            d, row = paper[place]
            for by in (-1, 1):
                for at in range(3):
                    changed = list(row)
                    changed[at] += by
                    self.assertIs(paper_good(square, paper[:place] + [(d, changed)] + paper[place + 1:]), False)
                self.assertIs(paper_good(square, paper[:place] + [(d + by, row)] + paper[place + 1:]), False)

    def test_a_square_changed_at_one_place(self):
        square = [[10, -9], [-9, 10]]
        paper = paper_of(square)
        for j in range(2):
            for i in range(2):
                changed = copy.deepcopy(square)
                changed[j][i] += 1
                self.assertIs(paper_good(changed, paper), False)

    def test_d_of_nought_and_below(self):
        self.assertIs(paper_good([[2]], [(0, [0])]), False)
        self.assertIs(paper_good([[2]], [(-2, [-1])]), False)
        self.assertIs(paper_good([[0]], [(0, [1])]), False)
        self.assertIs(paper_good([[10, -9], [-9, 10]], [(19, [10, 9]), (-19, [-9, -10])]), False)
        self.assertIs(paper_good([[10, -9], [-9, 10]], [(0, [0, 0]), (19, [9, 10])]), False)

    def test_pairs_too_few_or_too_many(self):
        square, paper = [[10, -9], [-9, 10]], [(19, [10, 9]), (19, [9, 10])]
        for wrong in ([], paper[:1], paper[1:], paper + [(1, [0, 0])], paper + paper[:1], paper[::-1]):
            self.assertIs(paper_good(square, wrong), False)
        self.assertIs(paper_good([], [(1, [])]), False)

    def test_numbers_too_few_or_too_many(self):
        square = [[2, 0], [0, 3]]
        self.assertIs(paper_good(square, [(2, [1, 0]), (3, [0, 1])]), True)
        for wrong in ([], [1], [1, 0, 0]):
            self.assertIs(paper_good(square, [(2, wrong), (3, [0, 1])]), False)
        for wrong in ([], [0], [0, 1, 0]):
            self.assertIs(paper_good(square, [(2, [1, 0]), (3, wrong)]), False)

    def test_sums_at_the_wrong_place(self):
        self.assertIs(paper_good([[1, 0], [0, 1]], [(1, [0, 1]), (1, [1, 0])]), False)
        self.assertIs(paper_good([[1, 1], [0, 1]], [(1, [1, 0]), (1, [0, 1])]), False)

    def test_no_paper_holds_for_a_singular_square(self):
        for square in many_singular_squares():
            other = [(1, [1 if at == row else 0 for at in range(len(square))]) for row in range(len(square))]
            self.assertIs(paper_good(square, other), False)

    def test_what_is_handed_in_stays(self):
        square, paper = [[10, -9], [-9, 10]], [(19, [10, 9]), (19, [9, 10])]
        handed = copy.deepcopy((square, paper))
        paper_good(*handed)
        self.assertEqual(handed, (square, paper))


class TestMixGood(RoundsTest):
    def test_mixes_that_hold(self):
        self.assertIs(mix_good([[1, 2], [2, 4]], [2, -1]), True)
        self.assertIs(mix_good([[1, 2], [2, 4]], [-2, 1]), True)
        self.assertIs(mix_good([[0]], [1]), True)
        self.assertIs(mix_good([[0, 0], [5, 7]], [3, 0]), True)

    def test_lowest_terms_are_not_asked(self):
        self.assertIs(mix_good([[1, 2], [2, 4]], [20, -10]), True)
        self.assertIs(mix_good([[0]], [LONG]), True)

    def test_lists_are_mixed_not_places(self):
        self.assertIs(mix_good([[1, 3], [2, 6]], [2, -1]), True)
        self.assertIs(mix_good([[1, 3], [2, 6]], [3, -1]), False)

    def test_changed_at_one_place(self):
        square, mix = [[1, 2, 3], [4, 5, 6], [7, 8, 9]], [1, -2, 1]
        self.assertIs(mix_good(square, mix), True)
        for place in range(3):
            for by in (-1, 1):
                changed = list(mix)
                changed[place] += by
                self.assertIs(mix_good(square, changed), False)

    def test_nought_at_one_place_alone(self):
        self.assertIs(mix_good([[1, 2], [1, 3]], [1, -1]), False)
        self.assertIs(mix_good([[2, 1], [3, 1]], [1, -1]), False)

    def test_noughts_and_no_numbers(self):
        self.assertIs(mix_good([[1, 2], [2, 4]], [0, 0]), False)
        self.assertIs(mix_good([[0]], [0]), False)
        self.assertIs(mix_good([], []), False)

    def test_numbers_too_few_or_too_many(self):
        for wrong in ([], [2], [2, -1, 0], [2, -1, 5]):
            self.assertIs(mix_good([[1, 2], [2, 4]], wrong), False)
        self.assertIs(mix_good([[0, 0], [1, 1]], [1]), False)
        self.assertIs(mix_good([], [1]), False)
        self.assertIs(mix_good([[0]], []), False)

    def test_no_mix_holds_where_there_is_a_paper(self):
        source = random.Random(35)
        for square in many_squares():
            if square and determinant(square) != 0:
                for turn in range(5):
                    self.assertIs(mix_good(square, [source.randint(-3, 3) for place in square]), False)

    def test_what_is_handed_in_stays(self):
        handed = ([[1, 2], [2, 4]], [2, -1])
        mix_good(*handed)
        self.assertEqual(handed, ([[1, 2], [2, 4]], [2, -1]))


class TestOnlyOne(RoundsTest):
    def test_the_paper_is_the_one_and_only(self):
        for square in many_squares()[:80]:
            whole = determinant(square)
            if whole != 0:
                for place, (d, row) in enumerate(paper_of(square)):
                    told = [Fraction(number, d) for number in row]
                    self.assertEqual(told, [self.by_determinants(square, place, j, whole) for j in range(len(square))])

    def by_determinants(self, square, place, j, whole):
        """How often list j is taken: the square with a one at the place in the stead of that list, over the whole."""
        other = copy.deepcopy(square)
        other[j] = [1 if at == place else 0 for at in range(len(square))]
        return Fraction(determinant(other), whole)


if __name__ == "__main__":
    unittest.main()
