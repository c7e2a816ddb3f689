import itertools
import random
import unittest
from fractions import Fraction

from groupbooks.errors import NoRate, Unbalanced
from groupbooks.halves import entry_lines, lined_by, rests_of, with_dues
from groupbooks.rates import Rates

COINS = ("one", "usd", "eur", "yen")


def some_rates(told="one"):
    rates = Rates(told)
    for coin, top, bottom in (("usd", 1, 2), ("eur", 7, 4), ("yen", 2, 3), ("one", 3, 2)):
        if coin != told:
            rates.tell(coin, 0, top, bottom)
    return rates


def sums_by(things, key, value):
    sums = {}
    for thing in things:
        sums[key(thing)] = sums.get(key(thing), 0) + value(thing)
    return sums


def some_sides(source):
    """Sides of several firms and coins that come to 0 in each coin."""
    sides = []
    for place in range(source.randint(1, 9)):
        sides.append((source.choice("abcd"), source.choice(["cash", "rent"]), source.choice(COINS), source.randint(-9, 9)))
    for coin, rest in sums_by(sides, lambda side: side[2], lambda side: side[3]).items():
        if rest != 0:
            sides.append((source.choice("abcd"), "stock", coin, -rest))
    source.shuffle(sides)
    return sides


def many_sides():
    source = random.Random(5)
    return [some_sides(source) for turn in range(300)]


class HalvesTest(unittest.TestCase):
    def assert_unbalanced(self, ask, book, coin, rest):
        with self.assertRaises(Unbalanced) as taken:
            ask()
        refusal = taken.exception
        self.assertEqual((refusal.book, refusal.coin, refusal.rest), (book, coin, rest))

    def assert_no_rate(self, ask, coin, day):
        with self.assertRaises(NoRate) as taken:
            ask()
        self.assertEqual((taken.exception.coin, taken.exception.day), (coin, day))


class TestRestsOf(HalvesTest):
    def test_coins_as_they_first_come(self):
        sides = [("a", "cash", "usd", 5), ("b", "cash", "eur", 2), ("a", "rent", "usd", -3), ("c", "rent", "aud", -4)]
        self.assertEqual(rests_of(sides), [("usd", 2), ("eur", 2), ("aud", -4)])
        self.assertEqual(rests_of(sides[::-1]), [("aud", -4), ("usd", 2), ("eur", 2)])

    def test_rests_of_nought_stay(self):
        sides = [("a", "cash", "usd", 5), ("a", "cash", "one", 0), ("b", "rent", "usd", -5)]
        self.assertEqual(rests_of(sides), [("usd", 0), ("one", 0)])

    def test_over_all_firms_and_accounts(self):
        sides = [("a", "cash", "usd", 10 ** 40), ("b", "rent", "usd", 1), ("c", ".due.a", "usd", 1)]
        self.assertEqual(rests_of(sides), [("usd", 10 ** 40 + 2)])

    def test_no_sides(self):
        self.assertEqual(rests_of([]), [])

    def test_kinds_and_lists(self):
        sides = [("a", "cash", "usd", 5)]
        told = rests_of(sides)
        self.assertIs(type(told), list)
        self.assertIs(type(told[0]), tuple)
        told.append(("eur", 1))
        self.assertEqual(sides, [("a", "cash", "usd", 5)])
        self.assertEqual(rests_of(sides), [("usd", 5)])


class TestWithDues(HalvesTest):
    def test_one_firm_alone(self):
        sides = [("a", "cash", "usd", -5), ("a", "rent", "usd", 5), ("a", "cash", "one", 0)]
        self.assertEqual(with_dues(sides), sides)

    def test_no_sides(self):
        self.assertEqual(with_dues([]), [])

    def test_two_firms(self):
        sides = [("a", "cash", "usd", -2), ("a", "rent", "usd", 1), ("b", "rent", "usd", 1)]
        self.assertEqual(with_dues(sides), sides + [("b", ".due.a", "usd", -1), ("a", ".due.b", "usd", 1)])

    def test_order_is_by_firms_and_then_by_coins_as_they_first_come(self):
        sides = [
            ("m", "cash", "usd", -5), ("z", "cash", "eur", 4), ("b", "rent", "usd", 2), ("b", "rent", "eur", -7),
            ("z", "rent", "usd", 3), ("m", "rent", "eur", 3),
        ]
        self.assertEqual(with_dues(sides), sides + [
            ("z", ".due.m", "usd", -3), ("m", ".due.z", "usd", 3),
            ("z", ".due.m", "eur", -4), ("m", ".due.z", "eur", 4),
            ("b", ".due.m", "usd", -2), ("m", ".due.b", "usd", 2),
            ("b", ".due.m", "eur", 7), ("m", ".due.b", "eur", -7),
        ])

    def test_coins_are_ordered_over_all_sides_not_by_the_firm(self):
        # b tells one first, but over all sides usd comes first.
        sides = [("a", "cash", "usd", -1), ("b", "cash", "one", 6), ("b", "cash", "usd", 1), ("a", "cash", "one", -6)]
        self.assertEqual(with_dues(sides)[4:], [
            ("b", ".due.a", "usd", -1), ("a", ".due.b", "usd", 1),
            ("b", ".due.a", "one", -6), ("a", ".due.b", "one", 6),
        ])

    def test_halves_that_come_to_nought_get_none(self):
        sides = [("a", "cash", "usd", 3), ("b", "cash", "usd", 5), ("b", "rent", "usd", -5), ("a", "rent", "usd", -3)]
        self.assertEqual(with_dues(sides), sides)
        sides = [("a", "cash", "usd", 0), ("b", "cash", "eur", 0)]
        self.assertEqual(with_dues(sides), sides)

    def test_first_firm_without_a_rest_of_its_own(self):
        # The dues of b and c run through a, the first side's firm.
        sides = [("a", "cash", "usd", 0), ("b", "cash", "usd", 5), ("c", "cash", "usd", -5)]
        self.assertEqual(with_dues(sides)[3:], [
            ("b", ".due.a", "usd", -5), ("a", ".due.b", "usd", 5), ("c", ".due.a", "usd", 5), ("a", ".due.c", "usd", -5),
        ])

    def test_sides_on_dues_count_as_told(self):
        sides = [("a", ".due.b", "usd", 4), ("b", ".due.a", "usd", -4)]
        self.assertEqual(with_dues(sides), sides + [("b", ".due.a", "usd", 4), ("a", ".due.b", "usd", -4)])

    def test_names_of_eight_letters(self):
        sides = [("firmfirm", "cash", "usd", 1), ("otherone", "cash", "usd", -1)]
        self.assertEqual(with_dues(sides)[2:], [
            ("otherone", ".due.firmfirm", "usd", 1), ("firmfirm", ".due.otherone", "usd", -1)])

    def test_unbalanced(self):
        self.assert_unbalanced(lambda: with_dues([("a", "cash", "usd", 5)]), "a", "usd", 5)
        sides = [("b", "cash", "usd", 5), ("a", "rent", "usd", -5), ("a", "cash", "one", 1), ("a", "cash", "eur", -2)]
        self.assert_unbalanced(lambda: with_dues(sides), "b", "one", 1)
        sides = [("b", "cash", "usd", 5), ("a", "rent", "eur", 7), ("a", "cash", "usd", -8), ("c", "cash", "eur", -2)]
        self.assert_unbalanced(lambda: with_dues(sides), "b", "usd", -3)

    def test_amounts_of_different_coins_do_not_weigh_one_another_up(self):
        sides = [("a", "cash", "usd", 5), ("a", "cash", "eur", -5)]
        self.assert_unbalanced(lambda: with_dues(sides), "a", "usd", 5)

    def test_good_sides_are_taken_behind_a_refusal(self):
        sides = [("a", "cash", "usd", 5), ("b", "rent", "usd", -4)]
        self.assert_unbalanced(lambda: with_dues(sides), "a", "usd", 1)
        self.assertEqual(sides, [("a", "cash", "usd", 5), ("b", "rent", "usd", -4)])
        sides.append(("b", "cash", "usd", -1))
        self.assertEqual(with_dues(sides)[3:], [("b", ".due.a", "usd", 5), ("a", ".due.b", "usd", -5)])

    def test_list_stays_and_what_is_told_is_new(self):
        for sides in ([], [("a", "cash", "usd", 0)], [("a", "cash", "usd", 1), ("b", "cash", "usd", -1)]):
            handed = list(sides)
            told = with_dues(handed)
            kept = list(told)
            self.assertEqual(handed, sides)
            handed.append(("c", "cash", "usd", 9))
            self.assertEqual(told, kept)
            told.clear()
            self.assertEqual(handed[:-1], sides)

    def test_each_half_comes_to_nought_in_each_coin(self):
        for sides in many_sides():
            told = with_dues(sides)
            self.assertEqual(told[:len(sides)], sides)
            halves = sums_by(told, lambda side: (side[0], side[2]), lambda side: side[3])
            self.assertEqual(set(halves.values()), {0})
            for side in told[len(sides):]:
                self.assertNotEqual(side[3], 0)

    def test_what_one_is_due_the_other_owes(self):
        for sides in many_sides():
            dues = sums_by(with_dues(sides), lambda side: side[:3], lambda side: side[3])
            for one, other in itertools.permutations("abcd", 2):
                for coin in COINS:
                    mine = dues.get((one, ".due." + other, coin), 0)
                    self.assertEqual(mine, -dues.get((other, ".due." + one, coin), 0))


class TestLinedBy(HalvesTest):
    def test_a_line_for_each_side_in_order(self):
        sides = [("b", "cash", "usd", 4), ("a", "rent", "eur", 4), ("b", "rent", "one", -2), ("a", "cash", "one", -7)]
        self.assertEqual(lined_by(sides, 3, some_rates()), [
            ("b", "cash", "usd", 4, 2), ("a", "rent", "eur", 4, 7), ("b", "rent", "one", -2, -2), ("a", "cash", "one", -7, -7),
        ])

    def test_sides_of_amount_nought(self):
        sides = [("a", "cash", "usd", 0), ("a", "rent", "one", 0)]
        self.assertEqual(lined_by(sides, 0, some_rates()), [("a", "cash", "usd", 0, 0), ("a", "rent", "one", 0, 0)])

    def test_no_sides(self):
        self.assertEqual(lined_by([], 0, some_rates()), [])

    def test_worths_of_halves_go_away_from_nought(self):
        sides = [("a", "cash", "usd", 5), ("a", "rent", "usd", -2), ("a", "stock", "usd", -3)]
        self.assertEqual(lined_by(sides, 0, some_rates()), [
            ("a", "cash", "usd", 5, 3), ("a", "rent", "usd", -2, -1), ("a", "stock", "usd", -3, -2)])
        sides = [("a", "cash", "usd", -5), ("a", "rent", "usd", 4), ("a", "stock", "usd", 1)]
        self.assertEqual(lined_by(sides, 0, some_rates()), [
            ("a", "cash", "usd", -5, -3), ("a", "rent", "usd", 4, 2), ("a", "stock", "usd", 1, 1)])

    def test_rounding_lines_for_each_firm_in_order(self):
        sides = [
            ("z", "cash", "usd", 1), ("b", "cash", "usd", -2), ("c", "cash", "usd", -1), ("z", "rent", "usd", 1),
            ("c", "rent", "usd", -1), ("z", "stock", "usd", -2), ("b", "rent", "usd", 2), ("c", "stock", "usd", 2),
        ]
        self.assertEqual(lined_by(sides, 0, some_rates())[8:], [
            ("z", "*rounding", "one", 0, -1), ("c", "*rounding", "one", 0, 1)])

    def test_halves_need_not_come_to_nought_in_amounts(self):
        self.assertEqual(lined_by([("a", "cash", "one", 5)], 0, some_rates()), [
            ("a", "cash", "one", 5, 5), ("a", "*rounding", "one", 0, -5)])

    def test_rounding_lines_are_in_the_told_coin(self):
        sides = [("a", "cash", "usd", -2), ("a", "rent", "usd", 1), ("a", "stock", "usd", 1)]
        for told in ("one", "eur"):
            rates = some_rates(told)
            self.assertEqual(lined_by(sides, 0, rates)[3:], [("a", "*rounding", told, 0, -1)])
        self.assertEqual(lined_by(sides, 0, some_rates("usd"))[3:], [])

    def test_rates_of_the_very_day(self):
        rates = Rates()
        rates.tell("usd", 10, 3)
        rates.tell("usd", 20, 5)
        sides = [("a", "cash", "usd", 2), ("a", "rent", "usd", -2)]
        self.assertEqual([line[4] for line in lined_by(sides, 10, rates)], [6, -6])
        self.assertEqual([line[4] for line in lined_by(sides, 19, rates)], [6, -6])
        self.assertEqual([line[4] for line in lined_by(sides, 20, rates)], [10, -10])
        self.assert_no_rate(lambda: lined_by(sides, 9, rates), "usd", 9)

    def test_no_rate_for_the_first_side_without_one(self):
        sides = [("a", "cash", "usd", 1), ("a", "cash", "xyz", 0), ("a", "cash", "abc", 1), ("a", "cash", "xyz", 1)]
        self.assert_no_rate(lambda: lined_by(sides, 7, some_rates()), "xyz", 7)
        self.assert_no_rate(lambda: lined_by(sides[2:], 7, some_rates()), "abc", 7)

    def test_taken_behind_a_refusal(self):
        rates = some_rates()
        sides = [("a", "cash", "xyz", 1), ("a", "rent", "xyz", -1)]
        self.assert_no_rate(lambda: lined_by(sides, 7, rates), "xyz", 7)
        self.assertEqual(sides, [("a", "cash", "xyz", 1), ("a", "rent", "xyz", -1)])
        rates.tell("xyz", 7, 2)
        self.assertEqual(lined_by(sides, 7, rates), [("a", "cash", "xyz", 1, 2), ("a", "rent", "xyz", -1, -2)])

    def test_list_stays_and_what_is_told_is_new(self):
        sides = [("a", "cash", "usd", -2), ("a", "rent", "usd", 1), ("a", "stock", "usd", 1)]
        handed, rates = list(sides), some_rates()
        told = lined_by(handed, 0, rates)
        kept = list(told)
        self.assertIs(type(told), list)
        self.assertEqual(handed, sides)
        handed.clear()
        rates.tell("usd", 1, 9)
        lined_by(sides, 1, rates)
        self.assertEqual(told, kept)
        told.clear()
        self.assertEqual(lined_by(sides, 0, rates), kept)

    def test_amounts_of_many_figures(self):
        long = 10 ** 299 + 1
        sides = [("a", "cash", "usd", long), ("a", "rent", "usd", -long)]
        self.assertEqual([line[4] for line in lined_by(sides, 0, some_rates())], [(long + 1) // 2, -(long + 1) // 2])


class TestEntryLines(HalvesTest):
    def test_the_document_s_example(self):
        sides = [("a", "cash", "usd", -2), ("a", "rent", "usd", 1), ("b", "rent", "usd", 1)]
        self.assertEqual(entry_lines(sides, 0, some_rates()), [
            ("a", "cash", "usd", -2, -1), ("a", "rent", "usd", 1, 1), ("b", "rent", "usd", 1, 1),
            ("b", ".due.a", "usd", -1, -1), ("a", ".due.b", "usd", 1, 1), ("a", "*rounding", "one", 0, -1),
        ])

    def test_no_sides(self):
        self.assertEqual(entry_lines([], 0, some_rates()), [])

    def test_unbalanced_goes_ahead_of_no_rate(self):
        sides = [("b", "cash", "xyz", 1), ("a", "cash", "xyz", -1), ("a", "cash", "one", 3)]
        self.assert_unbalanced(lambda: entry_lines(sides, 4, some_rates()), "b", "one", 3)
        self.assert_no_rate(lambda: entry_lines(sides[:2], 4, some_rates()), "xyz", 4)
        self.assert_no_rate(lambda: entry_lines(sides[:2] + [("a", "cash", "abc", 0)], 4, some_rates()), "xyz", 4)

    def test_list_stays(self):
        sides = [("a", "cash", "usd", -1), ("b", "rent", "usd", 1)]
        told = entry_lines(sides, 0, some_rates())
        self.assertEqual(sides, [("a", "cash", "usd", -1), ("b", "rent", "usd", 1)])
        told.clear()
        self.assertEqual(len(entry_lines(sides, 0, some_rates())), 4)

    def test_lines_of_the_sides_with_their_dues(self):
        for sides in many_sides():
            self.assertEqual(entry_lines(sides, 0, some_rates()), lined_by(with_dues(sides), 0, some_rates()))

    def test_halves_come_to_nought_in_each_coin_and_in_worth(self):
        for told in COINS[:2]:
            for sides in many_sides():
                lines = entry_lines(sides, 0, some_rates(told))
                amounts = sums_by(lines, lambda line: (line[0], line[2]), lambda line: line[3])
                worths = sums_by(lines, lambda line: line[0], lambda line: line[4])
                self.assertEqual(set(amounts.values()), {0})
                self.assertEqual(set(worths.values()), {0})

    def test_rounding_is_at_most_half_a_unit_for_each_line_in_another_coin(self):
        for sides in many_sides():
            lines = entry_lines(sides, 0, some_rates())
            for line in lines:
                if line[1] == "*rounding":
                    others = [one for one in lines if one[0] == line[0] and one[2] != "one"]
                    self.assertLessEqual(abs(line[4]), Fraction(len(others), 2))
                    self.assertNotEqual(line[4], 0)

    def test_one_rounding_line_for_a_firm_at_most(self):
        for sides in many_sides():
            rounded = [line[0] for line in entry_lines(sides, 0, some_rates()) if line[1] == "*rounding"]
            self.assertEqual(len(rounded), len(set(rounded)))

    def test_dues_are_the_same_with_the_other_sign_in_worth_too(self):
        for sides in many_sides():
            lines = entry_lines(sides, 0, some_rates())
            for value in (3, 4):
                dues = sums_by(lines, lambda line: line[:3], lambda line: line[value])
                for one, other in itertools.permutations("abcd", 2):
                    for coin in COINS:
                        mine = dues.get((one, ".due." + other, coin), 0)
                        self.assertEqual(mine, -dues.get((other, ".due." + one, coin), 0))

    def test_the_same_sums_as_with_all_sides_of_one_firm(self):
        def sums(lines):
            told = {}
            for firm, account, coin, amount, worth in lines:
                if not account.startswith("."):
                    so_far = told.get((account, coin), (0, 0))
                    told[(account, coin)] = (so_far[0] + amount, so_far[1] + worth)
            return {key: value for key, value in told.items() if value != (0, 0)}

        for sides in many_sides():
            alone = [("a",) + side[1:] for side in sides]
            self.assertEqual(
                sums(entry_lines(sides, 0, some_rates())), sums(entry_lines(alone, 0, some_rates())), sides)


if __name__ == "__main__":
    unittest.main()
