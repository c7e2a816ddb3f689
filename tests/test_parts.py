import copy
import math
import random
import unittest
from fractions import Fraction

from groupbooks.errors import BadAmount, NoFirm, Ringed, Unheld
from groupbooks.holders import all_shares, owners_of, ring_of, shares_of, strangers_of
from groupbooks.parts import firm_parts, last_parts, parts_good
from groupbooks.rounds import paper_good, paper_of, square_of

FIRMS = ["a", "b"]
ROWS = [("b", "a", 9), ("x", "a", 1), ("a", "b", 9), ("x", "b", 1)]
# c is held through a and b, which hold one another; d holds of itself.
WIDE_FIRMS = ["c", "a", "d", "b"]
WIDE_ROWS = [
    ("x", "a", 2), ("b", "a", 1), ("y", "a", 1), ("a", "b", 3), ("y", "b", 1), ("a", "c", 1), ("b", "c", 1), ("x", "a", 2),
    ("d", "d", 4), ("c", "d", 3), ("z", "d", 1),
]


def good_table(source):
    """A table that is not refused: each firm is held by a stranger or by a firm that came ahead of it."""
    firms = source.sample("abcdef", source.randint(1, 6))
    rows = []
    for place, firm in enumerate(firms):
        rows.append((source.choice(firms[:place] + ["x", "y", "z"]), firm, source.randint(1, 9)))
    for turn in range(source.randint(0, 14)):
        most = source.choice([1, 9, 10 ** 6])
        rows.append((source.choice(firms + ["x"]), source.choice(firms), source.randint(1, most)))
    source.shuffle(rows)
    source.shuffle(firms)
    return firms, rows


def good_tables():
    source = random.Random(36)
    return [good_table(source) for turn in range(150)]


def solved(lists, wanted):
    """The one solution of as many equations as unknowns, in Python's own fractions; None where there is not just one."""
    many = len(lists)
    wide = [[Fraction(number) for number in numbers] + [Fraction(end)] for numbers, end in zip(lists, wanted)]
    for place in range(many):
        at = next((row for row in range(place, many) if wide[row][place] != 0), None)
        if at is None:
            return None
        wide[place], wide[at] = wide[at], wide[place]
        wide[place] = [number / wide[place][place] for number in wide[place]]
        for row in range(many):
            if row != place:
                by = wide[row][place]
                wide[row] = [one - by * other for one, other in zip(wide[row], wide[place])]
    return [numbers[-1] for numbers in wide]


def parts_by_equations(firms, rows, holder):
    """[35] written down as equations, one for each firm."""
    lists, wanted = [], []
    for j in firms:
        if j == holder:
            lists.append([int(k == j) for k in firms])
            wanted.append(1)
        else:
            # Through the holder itself nothing is counted a second time.
            through = [0 if k == holder else shares_of(rows, k, j) for k in firms]
            direct = shares_of(rows, holder, j)
            lists.append([(all_shares(rows, j) if k == j else 0) - count for k, count in zip(firms, through)])
            wanted.append(direct)
    return solved(lists, wanted)


def as_pairs(parts):
    return [(part.numerator, part.denominator) for part in parts]


class PartsTest(unittest.TestCase):
    def assert_fractions(self, parts, many):
        self.assertIsInstance(parts, list)
        self.assertEqual(len(parts), many)
        for part in parts:
            self.assertIsInstance(part, tuple)
            top, bottom = part
            self.assertGreaterEqual(bottom, 1)
            self.assertEqual(math.gcd(top, bottom), 1)


class TestLastParts(PartsTest):
    def test_the_example(self):
        self.assertEqual(last_parts(FIRMS, ROWS), [("x", [(1, 1), (1, 1)])])

    def test_one_firm(self):
        rows = [("y", "a", 3), ("x", "a", 1), ("y", "a", 2)]
        self.assertEqual(last_parts(["a"], rows), [("x", [(1, 6)]), ("y", [(5, 6)])])

    def test_a_chain(self):
        rows = [("x", "a", 1), ("y", "a", 1), ("a", "b", 2), ("y", "b", 1), ("b", "c", 1)]
        expected = [("x", [(1, 3), (1, 3), (1, 2)]), ("y", [(2, 3), (2, 3), (1, 2)])]
        self.assertEqual(last_parts(["c", "b", "a"], rows), expected)

    def test_a_firm_that_holds_of_itself(self):
        rows = [("a", "a", 7), ("x", "a", 1), ("y", "a", 2)]
        self.assertEqual(last_parts(["a"], rows), [("x", [(1, 3)]), ("y", [(2, 3)])])

    def test_a_round_through_three(self):
        # x has p of a, p / 2 of c, p / 4 of b, and a half of what b has of a: p = 1/2 + p / 8.
        rows = [("x", "a", 1), ("b", "a", 1), ("c", "b", 1), ("y", "b", 1), ("a", "c", 1), ("y", "c", 1)]
        expected = [("x", [(4, 7), (1, 7), (2, 7)]), ("y", [(3, 7), (6, 7), (5, 7)])]
        self.assertEqual(last_parts(["a", "b", "c"], rows), expected)

    def test_strangers_sorted(self):
        rows = [("zz", "a", 1), ("y", "a", 1), ("z", "a", 1), ("b", "a", 1), ("ab", "b", 1)]
        self.assertEqual([name for name, parts in last_parts(["a", "b"], rows)], ["ab", "y", "z", "zz"])

    def test_parts_in_the_firms_order(self):
        rows = [("x", "a", 1), ("y", "b", 1)]
        self.assertEqual(last_parts(["a", "b"], rows), [("x", [(1, 1), (0, 1)]), ("y", [(0, 1), (1, 1)])])
        self.assertEqual(last_parts(["b", "a"], rows), [("x", [(0, 1), (1, 1)]), ("y", [(1, 1), (0, 1)])])

    def test_no_firms(self):
        self.assertEqual(last_parts([], []), [])

    def test_by_equations(self):
        for firms, rows in good_tables() + [(WIDE_FIRMS, WIDE_ROWS)]:
            told = last_parts(firms, rows)
            self.assertEqual([name for name, parts in told], strangers_of(firms, rows))
            for stranger, parts in told:
                self.assert_fractions(parts, len(firms))
                self.assertEqual(parts, as_pairs(parts_by_equations(firms, rows, stranger)))
                self.assertIs(parts_good(firms, rows, stranger, parts), True)

    def test_the_strangers_parts_come_to_one(self):
        for firms, rows in good_tables():
            told = last_parts(firms, rows)
            for place in range(len(firms)):
                self.assertEqual(sum(Fraction(*parts[place]) for name, parts in told), 1)

    def test_bounds(self):
        for firms, rows in good_tables():
            for stranger, parts in last_parts(firms, rows):
                for firm, part in zip(firms, parts):
                    direct = Fraction(shares_of(rows, stranger, firm), all_shares(rows, firm))
                    self.assertLessEqual(direct, Fraction(*part))
                    self.assertLessEqual(Fraction(*part), 1)

    def test_shares_of_many_figures(self):
        long = 10 ** 6
        firms = list("abcdef")
        rows = [(one, other, long - 1) for one in firms for other in firms] + [("x", "a", 1), ("y", "f", 1)]
        told = last_parts(firms, rows)
        for stranger, parts in told:
            self.assertEqual(parts, as_pairs(parts_by_equations(firms, rows, stranger)))
        self.assertEqual([sum(Fraction(*pair) for pair in pairs) for pairs in zip(told[0][1], told[1][1])], [1] * 6)


class TestFirmParts(PartsTest):
    def test_the_example(self):
        self.assertEqual(firm_parts(FIRMS, ROWS), [("a", [(1, 1), (9, 10)]), ("b", [(9, 10), (1, 1)])])

    def test_nothing_held(self):
        self.assertEqual(firm_parts(["a"], [("x", "a", 5)]), [("a", [(1, 1)])])
        rows = [("x", "a", 5), ("x", "b", 3)]
        self.assertEqual(firm_parts(["b", "a"], rows), [("b", [(1, 1), (0, 1)]), ("a", [(0, 1), (1, 1)])])

    def test_a_chain(self):
        rows = [("x", "a", 1), ("a", "b", 1), ("x", "b", 1), ("b", "c", 2), ("a", "c", 1)]
        expected = [("c", [(1, 1), (0, 1), (0, 1)]), ("a", [(2, 3), (1, 1), (1, 2)]), ("b", [(2, 3), (0, 1), (1, 1)])]
        self.assertEqual(firm_parts(["c", "a", "b"], rows), expected)

    def test_a_firm_that_holds_of_itself(self):
        rows = [("a", "a", 7), ("x", "a", 1), ("a", "b", 1), ("b", "b", 3), ("x", "b", 1)]
        self.assertEqual(firm_parts(["a", "b"], rows), [("a", [(1, 1), (1, 2)]), ("b", [(0, 1), (1, 1)])])

    def test_a_round_through_three(self):
        # a has 1/2 of c, 1/4 of b through c; what b has of a is not counted a second time.
        rows = [("x", "a", 1), ("b", "a", 1), ("c", "b", 1), ("y", "b", 1), ("a", "c", 1), ("y", "c", 1)]
        expected = [("a", [(1, 1), (1, 4), (1, 2)]), ("b", [(1, 2), (1, 1), (1, 4)]), ("c", [(1, 4), (1, 2), (1, 1)])]
        self.assertEqual(firm_parts(["a", "b", "c"], rows), expected)

    def test_no_firms(self):
        self.assertEqual(firm_parts([], []), [])

    def test_by_equations(self):
        for firms, rows in good_tables() + [(WIDE_FIRMS, WIDE_ROWS)]:
            told = firm_parts(firms, rows)
            self.assertEqual([name for name, parts in told], firms)
            for firm, parts in told:
                self.assert_fractions(parts, len(firms))
                self.assertEqual(parts, as_pairs(parts_by_equations(firms, rows, firm)))
                self.assertIs(parts_good(firms, rows, firm, parts), True)

    def test_bounds(self):
        for firms, rows in good_tables():
            for place, (holder, parts) in enumerate(firm_parts(firms, rows)):
                self.assertEqual(parts[place], (1, 1))
                for firm, part in zip(firms, parts):
                    direct = Fraction(shares_of(rows, holder, firm), all_shares(rows, firm))
                    self.assertLessEqual(direct, Fraction(*part))
                    self.assertLessEqual(Fraction(*part), 1)


class TestByThePaper(PartsTest):
    def test_parts_as_the_paper_tells_them(self):
        for firms, rows in good_tables():
            square = square_of(firms, rows)
            paper = paper_of(square)
            self.assertIs(paper_good(square, paper), True)
            for stranger, parts in last_parts(firms, rows):
                held = [shares_of(rows, stranger, firm) for firm in firms]
                told = [Fraction(sum(one * other for one, other in zip(held, row)), d) for d, row in paper]
                self.assertEqual(parts, as_pairs(told))
            for i, (firm, parts) in enumerate(firm_parts(firms, rows)):
                own = Fraction(paper[i][1][i], paper[i][0])
                self.assertEqual(parts, as_pairs([Fraction(row[i], d) / own for d, row in paper]))


class TestRefused(unittest.TestCase):
    def assert_refused(self, firms, rows, error, name, value):
        for ask in (last_parts, firm_parts):
            handed = (list(firms), list(rows))
            with self.assertRaises(error) as taken:
                ask(*handed)
            self.assertEqual(getattr(taken.exception, name), value)
            self.assertEqual(handed, (firms, rows))

    def test_each_refusal(self):
        self.assert_refused(["a"], [("x", "a", 1), ("x", "q", 1)], NoFirm, "name", "q")
        self.assert_refused(["a"], [("x", "a", 1), ("y", "a", 0)], BadAmount, "amount", 0)
        self.assert_refused(["a"], [("x", "a", 1), ("y", "a", -4)], BadAmount, "amount", -4)
        self.assert_refused(["a", "b"], [("x", "a", 1)], Unheld, "firm", "b")
        self.assert_refused(["b", "a"], [("a", "b", 1), ("b", "a", 1)], Ringed, "ring", ["a", "b"])
        self.assert_refused(["a"], [("a", "a", 1)], Ringed, "ring", ["a"])

    def test_in_this_order(self):
        rows = [("b", "b", 1), ("x", "a", 0), ("x", "q", 1)]
        self.assert_refused(["a", "b", "c"], rows, NoFirm, "name", "q")
        self.assert_refused(["a", "b", "c"], rows[:2], BadAmount, "amount", 0)
        self.assert_refused(["a", "b", "c"], rows[:1], Unheld, "firm", "a")
        self.assert_refused(["b", "a"], rows[:1] + [("x", "a", 1)], Ringed, "ring", ["b"])

    def test_firms_that_hold_one_another_wholly_are_told_instead(self):
        source = random.Random(31)
        rings = 0
        for turn in range(150):
            firms = source.sample("abcdef", source.randint(1, 6))
            rows = [(source.choice(firms + ["x"]), firm, source.randint(1, 9)) for firm in firms for row in "12"]
            ring = ring_of(firms, rows)
            if ring:
                rings += 1
                self.assert_refused(firms, rows, Ringed, "ring", ring)
                for firm in ring:
                    self.assertLessEqual(set(owners_of(rows, firm)), set(ring))
            else:
                self.assertIs(paper_good(square_of(firms, rows), paper_of(square_of(firms, rows))), True)
                self.assertEqual([name for name, parts in firm_parts(firms, rows)], firms)
        self.assertGreater(rings, 20)
        self.assertLess(rings, 130)

    def test_asked_again_behind_a_change(self):
        rows = [("a", "a", 1)]
        self.assert_refused(["a"], rows, Ringed, "ring", ["a"])
        rows.append(("x", "a", 1))
        self.assertEqual(last_parts(["a"], rows), [("x", [(1, 1)])])
        self.assertEqual(firm_parts(["a"], rows), [("a", [(1, 1)])])


class TestPartsGood(PartsTest):
    def test_strangers_and_firms(self):
        self.assertIs(parts_good(FIRMS, ROWS, "x", [(1, 1), (1, 1)]), True)
        self.assertIs(parts_good(FIRMS, ROWS, "a", [(1, 1), (9, 10)]), True)
        self.assertIs(parts_good(FIRMS, ROWS, "b", [(9, 10), (1, 1)]), True)

    def test_one_holder_s_parts_are_not_another_s(self):
        self.assertIs(parts_good(FIRMS, ROWS, "a", [(9, 10), (1, 1)]), False)
        self.assertIs(parts_good(FIRMS, ROWS, "b", [(1, 1), (9, 10)]), False)
        self.assertIs(parts_good(FIRMS, ROWS, "a", [(1, 1), (1, 1)]), False)
        self.assertIs(parts_good(FIRMS, ROWS, "y", [(1, 1), (1, 1)]), False)

    def test_not_in_lowest_terms(self):
        self.assertIs(parts_good(FIRMS, ROWS, "a", [(7, 7), (18, 20)]), True)
        self.assertIs(parts_good(FIRMS, ROWS, "a", [(7, 7), (18, 21)]), False)
        self.assertIs(parts_good(FIRMS, ROWS, "a", [(7, 8), (9, 10)]), False)
        source = random.Random(37)
        for firms, rows in good_tables():
            for holder, parts in last_parts(firms, rows) + firm_parts(firms, rows):
                by = [source.randint(1, 9) for part in parts]
                wider = [(top * count, bottom * count) for (top, bottom), count in zip(parts, by)]
                self.assertIs(parts_good(firms, rows, holder, wider), True)

    def test_one_part_changed(self):
        for firms, rows in good_tables()[::3] + [(WIDE_FIRMS, WIDE_ROWS)]:
            for holder, parts in last_parts(firms, rows) + firm_parts(firms, rows):
                for place, (top, bottom) in enumerate(parts):
                    for other in ((top + 1, bottom), (top - 1, bottom), (-top - 1, bottom), (2 * top + 1, 2 * bottom)):
                        changed = parts[:place] + [other] + parts[place + 1:]
                        self.assertIs(parts_good(firms, rows, holder, changed), False)

    def test_too_few_and_too_many(self):
        for holder, parts in (("x", [(1, 1), (1, 1)]), ("a", [(1, 1), (9, 10)])):
            for wrong in ([], parts[:1], parts[1:], parts + [(0, 1)], parts + [(1, 1)], parts + parts):
                self.assertIs(parts_good(FIRMS, ROWS, holder, wrong), False)
        self.assertIs(parts_good([], [], "x", [(1, 1)]), False)
        self.assertIs(parts_good([], [], "x", []), True)

    def test_a_holder_without_rows(self):
        self.assertIs(parts_good(FIRMS, ROWS, "q", [(0, 1), (0, 1)]), True)
        self.assertIs(parts_good(FIRMS, ROWS, "q", [(0, 5), (0, 7)]), True)
        self.assertIs(parts_good(FIRMS, ROWS, "q", [(0, 1), (1, 10)]), False)
        rows = [("x", "a", 1), ("x", "b", 1)]
        self.assertIs(parts_good(FIRMS, rows, "a", [(1, 1), (0, 1)]), True)
        self.assertIs(parts_good(FIRMS, rows, "a", [(0, 1), (0, 1)]), False)

    def test_a_ring_takes_several(self):
        # Two firms wholly of one another: whatever part there is of the one is that of the other.
        rows = [("a", "b", 2), ("b", "a", 3)]
        for part in ((0, 1), (1, 2), (5, 1), (-1, 3)):
            self.assertIs(parts_good(FIRMS, rows, "x", [part, part]), True)
        self.assertIs(parts_good(FIRMS, rows, "x", [(1, 2), (1, 3)]), False)
        self.assertIs(parts_good(FIRMS, rows, "a", [(1, 1), (1, 1)]), True)
        self.assertIs(parts_good(FIRMS, rows, "a", [(1, 1), (1, 2)]), False)

    def test_other_tables_that_are_refused(self):
        self.assertIs(parts_good(["a"], [("x", "a", 1), ("x", "q", 8), ("y", "a", 1)], "x", [(1, 2)]), True)
        self.assertIs(parts_good(["a"], [("x", "a", 1), ("x", "q", 8), ("y", "a", 1)], "x", [(9, 2)]), False)
        self.assertIs(parts_good(["a"], [("x", "a", -1), ("y", "a", 3)], "x", [(-1, 2)]), True)
        self.assertIs(parts_good(["a"], [("x", "a", -1), ("y", "a", 3)], "x", [(1, 2)]), False)
        # Of a firm without rows any part is right: there is nothing to be met.
        self.assertIs(parts_good(["a", "b"], [("x", "a", 1)], "x", [(1, 1), (7, 3)]), True)
        self.assertIs(parts_good(["a", "b"], [("x", "a", 1)], "x", [(1, 2), (7, 3)]), False)
        # No part of a firm is right whose shares come to 0 while the holder has some.
        self.assertIs(parts_good(["a"], [("x", "a", 1), ("y", "a", -1)], "x", [(1, 1)]), False)

    def test_a_bottom_of_nought_is_not_refused(self):
        for wrong in ((0, 0), (1, 0), (-1, 0)):
            self.assertIs(parts_good(FIRMS, ROWS, "x", [(1, 1), wrong]), False)
            self.assertIs(parts_good(["a"], [], "x", [wrong]), False)

    def test_a_firm_that_holds_of_itself(self):
        rows = [("a", "a", 7), ("x", "a", 1), ("y", "a", 2)]
        self.assertIs(parts_good(["a"], rows, "x", [(1, 3)]), True)
        self.assertIs(parts_good(["a"], rows, "x", [(1, 10)]), False)
        self.assertIs(parts_good(["a"], rows, "a", [(1, 1)]), True)
        self.assertIs(parts_good(["a"], rows, "a", [(7, 10)]), False)

    def test_the_only_right_parts(self):
        for firms, rows in good_tables():
            for holder in firms + strangers_of(firms, rows) + ["nobody"]:
                self.assertIs(parts_good(firms, rows, holder, as_pairs(parts_by_equations(firms, rows, holder))), True)


class TestHandedIn(unittest.TestCase):
    def test_what_is_handed_in_stays(self):
        handed = (list(WIDE_FIRMS), list(WIDE_ROWS))
        last_parts(*handed)
        firm_parts(*handed)
        parts = [(2, 4), (3, 6), (0, 2), (1, 1)]
        parts_good(*handed, "x", parts)
        self.assertEqual((handed, parts), ((WIDE_FIRMS, WIDE_ROWS), [(2, 4), (3, 6), (0, 2), (1, 1)]))

    def test_what_is_told_is_the_asker_s_own(self):
        for ask in (last_parts, firm_parts):
            firms, rows = list(WIDE_FIRMS), list(WIDE_ROWS)
            told = ask(firms, rows)
            kept = copy.deepcopy(told)
            rows.append(("y", "c", 5))
            firms.reverse()
            ask(firms, rows)
            self.assertEqual(told, kept)
            told[0][1].clear()
            self.assertEqual(told[1:], kept[1:])
            told.clear()
            self.assertEqual(ask(WIDE_FIRMS, WIDE_ROWS), kept)


if __name__ == "__main__":
    unittest.main()
