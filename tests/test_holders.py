import random
import unittest

from groupbooks.errors import BadAmount, NoFirm, Ringed, Unheld
from groupbooks.holders import (
    all_shares, checked, led_out, levels_of, owners_of, ring_of, shares_of, strangers_of,
)

ROWS = [
    ("x", "a", 3), ("b", "a", 2), ("x", "a", 4), ("a", "a", 1), ("y", "b", 7), ("a", "b", 5), ("b", "a", 6), ("a", "c", 9),
]


def some_table(source):
    """Any table: firms without rows, owners of firms nobody named, shares of any sign."""
    firms = source.sample("abcdef", source.randint(0, 6))
    rows = []
    for turn in range(source.randint(0, 10)):
        rows.append((source.choice("abcdefxy"), source.choice("abcdefg"), source.randint(-2, 9)))
    return firms, rows


def tight_table(source):
    """A table of the firms alone but for a row or two, so that rings come often."""
    firms = source.sample("abcdef", source.randint(1, 6))
    rows = [(source.choice(firms), source.choice(firms), source.randint(1, 9)) for turn in range(source.randint(1, 12))]
    for turn in range(source.randint(0, 2)):
        rows.insert(0, (source.choice("xyz"), source.choice(firms), source.randint(1, 9)))
    return firms, rows


def many_tables():
    source = random.Random(29)
    return [some_table(source) for turn in range(200)] + [tight_table(source) for turn in range(400)]


def steps_out(firms, rows, firm):
    """How many steps from owner to owner lead to the nearest stranger; None where none is reached."""
    reached = {firm}
    for steps in range(1, len(firms) + 2):
        reached = {holder for holder, held, shares in rows if held in reached and held in set(firms) | {firm}}
        if reached - set(firms):
            return steps
    return None


class TestShares(unittest.TestCase):
    def test_several_rows_add_up(self):
        self.assertEqual(shares_of(ROWS, "x", "a"), 7)
        self.assertEqual(shares_of(ROWS, "b", "a"), 8)
        self.assertEqual(shares_of(ROWS, "y", "b"), 7)

    def test_a_firm_holds_of_itself(self):
        self.assertEqual(shares_of(ROWS, "a", "a"), 1)

    def test_nobody_told(self):
        for holder, firm in (("x", "b"), ("x", "z"), ("z", "a"), ("b", "b"), ("a", "x")):
            self.assertEqual(shares_of(ROWS, holder, firm), 0)
        self.assertEqual(shares_of([], "x", "a"), 0)

    def test_all_shares(self):
        self.assertEqual([all_shares(ROWS, firm) for firm in "abcdx"], [16, 12, 9, 0, 0])
        self.assertEqual(all_shares([], "a"), 0)

    def test_all_shares_are_those_of_the_owners(self):
        for firms, rows in many_tables():
            for firm in "abcdefg":
                held = [shares_of(rows, owner, firm) for owner in owners_of(rows, firm)]
                self.assertEqual(sum(held), all_shares(rows, firm))

    def test_long_numbers(self):
        rows = [("x", "a", 10 ** 299), ("x", "a", 1), ("y", "a", 10 ** 299)]
        self.assertEqual(shares_of(rows, "x", "a"), 10 ** 299 + 1)
        self.assertEqual(all_shares(rows, "a"), 2 * 10 ** 299 + 1)


class TestOwnersAndStrangers(unittest.TestCase):
    def test_owners_sorted_each_once(self):
        self.assertEqual(owners_of(ROWS, "a"), ["a", "b", "x"])
        self.assertEqual(owners_of(ROWS, "b"), ["a", "y"])
        self.assertEqual(owners_of([("z", "a", 1), ("ab", "a", 1), ("b", "a", 1), ("a", "a", 1)], "a"), ["a", "ab", "b", "z"])

    def test_owners_that_nobody_told(self):
        for firm in ("d", "x", "ab"):
            self.assertEqual(owners_of(ROWS, firm), [])
        self.assertEqual(owners_of([], "a"), [])

    def test_a_row_makes_an_owner_whatever_its_shares(self):
        self.assertEqual(owners_of([("x", "a", 0), ("y", "a", -3), ("y", "a", 3)], "a"), ["x", "y"])

    def test_strangers_sorted_each_once(self):
        self.assertEqual(strangers_of(["a", "b", "c"], ROWS), ["x", "y"])
        self.assertEqual(strangers_of(["c"], ROWS), ["a", "b", "x", "y"])
        self.assertEqual(strangers_of([], ROWS), ["a", "b", "x", "y"])
        rows = [("zz", "a", 1), ("z", "a", 1), ("b", "a", 1), ("zz", "b", 1)]
        self.assertEqual(strangers_of(["a", "b"], rows), ["z", "zz"])

    def test_no_strangers(self):
        self.assertEqual(strangers_of(["a"], []), [])
        self.assertEqual(strangers_of(["a", "b"], [("a", "b", 1), ("b", "a", 1)]), [])

    def test_a_holder_of_no_firm_s_shares_is_a_stranger(self):
        self.assertEqual(strangers_of(["a"], [("x", "q", 1), ("y", "a", 1)]), ["x", "y"])


class TestLevels(unittest.TestCase):
    def test_held_by_strangers(self):
        rows = [("x", "a", 1), ("b", "a", 1), ("y", "b", 1)]
        self.assertEqual(levels_of(["a", "b"], rows), {"a": 0, "b": 0})
        self.assertEqual(ring_of(["a", "b"], rows), [])

    def test_a_chain_of_six(self):
        firms = ["f", "b", "a", "d", "c", "e"]
        rows = [("e", "f", 1), ("d", "e", 1), ("c", "d", 1), ("b", "c", 1), ("a", "b", 1), ("x", "a", 1)]
        self.assertEqual(levels_of(firms, rows), {"a": 0, "b": 1, "c": 2, "d": 3, "e": 4, "f": 5})
        self.assertEqual([led_out(firms, rows, firm) for firm in firms], [True] * 6)

    def test_the_least_level_counts(self):
        firms = ["a", "b", "c", "d"]
        rows = [("x", "a", 1), ("a", "b", 1), ("b", "c", 1), ("c", "d", 1), ("a", "d", 1)]
        self.assertEqual(levels_of(firms, rows), {"a": 0, "b": 1, "c": 2, "d": 1})

    def test_rounds_of_any_length(self):
        for many in range(1, 7):
            firms = list("fedcba"[:many])
            rows = [(firms[at - 1], firms[at], 5) for at in range(many)]
            self.assertEqual(levels_of(firms, rows), {})
            self.assertEqual(ring_of(firms, rows), sorted(firms))
            self.assertEqual([led_out(firms, rows, firm) for firm in firms], [False] * many)
            led = rows + [("x", firms[0], 1)]
            self.assertEqual(levels_of(firms, led), dict(zip(firms, range(many))))
            self.assertEqual(ring_of(firms, led), [])
            self.assertEqual([led_out(firms, led, firm) for firm in firms], [True] * many)

    def test_a_firm_that_only_itself_holds(self):
        rows = [("b", "b", 4), ("x", "a", 1)]
        self.assertEqual(levels_of(["a", "b"], rows), {"a": 0})
        self.assertEqual(ring_of(["a", "b"], rows), ["b"])
        self.assertEqual((led_out(["a", "b"], rows, "a"), led_out(["a", "b"], rows, "b")), (True, False))

    def test_a_firm_without_rows(self):
        self.assertEqual(ring_of(["c", "a", "b"], [("x", "a", 1)]), ["b", "c"])
        self.assertEqual(levels_of(["b"], []), {})
        self.assertIs(led_out(["b"], [], "b"), False)

    def test_held_by_a_firm_without_rows(self):
        rows = [("a", "b", 1), ("b", "c", 1)]
        self.assertEqual(levels_of(["c", "b", "a"], rows), {})
        self.assertEqual(ring_of(["c", "b", "a"], rows), ["a", "b", "c"])

    def test_to_hold_is_not_to_be_held(self):
        rows = [("a", "b", 1), ("x", "b", 1), ("a", "a", 1)]
        self.assertEqual(levels_of(["a", "b"], rows), {"b": 0})
        self.assertEqual(ring_of(["a", "b"], rows), ["a"])

    def test_a_round_beside_firms_that_are_led_out(self):
        firms = ["d", "c", "b", "a"]
        rows = [("x", "a", 1), ("c", "d", 1), ("d", "c", 1), ("c", "a", 1), ("a", "b", 1), ("d", "b", 1)]
        self.assertEqual(levels_of(firms, rows), {"a": 0, "b": 1})
        self.assertEqual(ring_of(firms, rows), ["c", "d"])

    def test_no_firms(self):
        self.assertEqual((levels_of([], []), ring_of([], [])), ({}, []))

    def test_true_and_false_themselves(self):
        rows = [("x", "a", 1), ("b", "b", 1)]
        self.assertIs(led_out(["a", "b"], rows, "a"), True)
        self.assertIs(led_out(["a", "b"], rows, "b"), False)

    def test_levels_are_the_steps_to_a_stranger_less_one(self):
        for firms, rows in many_tables():
            steps = {firm: steps_out(firms, rows, firm) for firm in firms}
            levels = {firm: count - 1 for firm, count in steps.items() if count is not None}
            self.assertEqual(levels_of(firms, rows), levels)
            self.assertEqual([led_out(firms, rows, firm) for firm in firms], [firm in levels for firm in firms])
            self.assertEqual(ring_of(firms, rows), sorted(set(firms) - set(levels)))

    def test_owners_of_the_ring_are_of_the_ring(self):
        rings = 0
        for firms, rows in many_tables():
            ring = ring_of(firms, rows)
            for firm in ring:
                self.assertLessEqual(set(owners_of(rows, firm)), set(ring))
            rings += len(ring) > 1
        self.assertGreater(rings, 50)


class TestChecked(unittest.TestCase):
    def refusal(self, firms, rows):
        try:
            return checked(firms, rows)
        except NoFirm as refusal:
            return ("NoFirm", refusal.name)
        except BadAmount as refusal:
            return ("BadAmount", refusal.amount)
        except Unheld as refusal:
            return ("Unheld", refusal.firm)
        except Ringed as refusal:
            return ("Ringed", refusal.ring)

    def test_good_tables(self):
        self.assertIsNone(checked(["a", "b", "c"], ROWS))
        self.assertIsNone(checked([], []))
        self.assertIsNone(checked(["a"], [("x", "a", 1)]))

    def test_a_firm_that_is_none(self):
        self.assertEqual(self.refusal(["a"], [("x", "a", 1), ("x", "c", 1), ("x", "b", 1)]), ("NoFirm", "c"))
        self.assertEqual(self.refusal([], [("x", "a", 1)]), ("NoFirm", "a"))
        self.assertEqual(self.refusal(["a"], [("x", "a", 1), ("a", "x", 1)]), ("NoFirm", "x"))

    def test_shares_below_one(self):
        for shares in (0, -1, -10 ** 299):
            rows = [("x", "a", 1), ("y", "a", shares), ("y", "a", -7)]
            self.assertEqual(self.refusal(["a"], rows), ("BadAmount", shares))
        self.assertEqual(self.refusal(["a"], [("x", "a", 5), ("x", "a", 0)]), ("BadAmount", 0))

    def test_without_a_row(self):
        self.assertEqual(self.refusal(["c", "a", "b"], [("x", "a", 1)]), ("Unheld", "c"))
        self.assertEqual(self.refusal(["a", "c", "b"], [("x", "a", 1)]), ("Unheld", "c"))
        self.assertEqual(self.refusal(["a"], []), ("Unheld", "a"))

    def test_a_ring(self):
        rows = [("c", "b", 1), ("b", "c", 2), ("x", "a", 3)]
        self.assertEqual(self.refusal(["c", "b", "a"], rows), ("Ringed", ["b", "c"]))
        self.assertEqual(self.refusal(["a"], [("a", "a", 1)]), ("Ringed", ["a"]))

    def test_in_this_order(self):
        no_firm, bad, ringed = ("x", "z", 1), ("x", "a", 0), ("b", "b", 1)
        self.assertEqual(self.refusal(["a", "b", "c"], [bad, ringed, no_firm]), ("NoFirm", "z"))
        self.assertEqual(self.refusal(["c", "a", "b"], [ringed, bad]), ("BadAmount", 0))
        self.assertEqual(self.refusal(["a", "b", "c"], [ringed, ("x", "a", 1)]), ("Unheld", "c"))
        self.assertEqual(self.refusal(["a", "b"], [ringed, ("x", "a", 1)]), ("Ringed", ["b"]))
        self.assertEqual(self.refusal(["a"], [("x", "z", 0), bad]), ("NoFirm", "z"))
        self.assertEqual(self.refusal(["a"], [("a", "a", 0)]), ("BadAmount", 0))

    def test_many(self):
        told = []
        for firms, rows in many_tables():
            wrong = [("NoFirm", row[1]) for row in rows if row[1] not in firms]
            wrong += [("BadAmount", row[2]) for row in rows if row[2] < 1]
            wrong += [("Unheld", firm) for firm in firms if firm not in [row[1] for row in rows]]
            ring = sorted(firm for firm in firms if steps_out(firms, rows, firm) is None)
            wrong += [("Ringed", ring)] if ring else []
            expected = wrong[0] if wrong else None
            self.assertEqual(self.refusal(firms, rows), expected)
            told.append(expected and expected[0])
        self.assertEqual(set(told), {None, "NoFirm", "BadAmount", "Unheld", "Ringed"})

    def test_asked_again_behind_a_change(self):
        firms, rows = ["a"], [("a", "a", 1)]
        self.assertEqual(self.refusal(firms, rows), ("Ringed", ["a"]))
        rows.append(("x", "a", 1))
        self.assertIsNone(checked(firms, rows))
        firms.append("b")
        self.assertEqual(self.refusal(firms, rows), ("Unheld", "b"))


class TestHandedIn(unittest.TestCase):
    def test_what_is_handed_in_stays(self):
        for firms, rows in many_tables()[::10]:
            asked_firms, asked_rows = list(firms), list(rows)
            for ask in (strangers_of, levels_of, ring_of):
                ask(asked_firms, asked_rows)
            try:
                checked(asked_firms, asked_rows)
            except (NoFirm, BadAmount, Unheld, Ringed):
                pass
            for firm in "abcdefgxy":
                shares_of(asked_rows, "x", firm)
                all_shares(asked_rows, firm)
                owners_of(asked_rows, firm)
                led_out(asked_firms, asked_rows, firm)
            self.assertEqual((asked_firms, asked_rows), (firms, rows))

    def test_what_is_told_is_the_asker_s_own(self):
        firms = ["a", "b", "c"]
        for ask in (strangers_of, levels_of, ring_of):
            rows = list(ROWS) + [("d", "c", 1)]
            first = ask(firms, rows)
            kept = first.copy()
            first.clear()
            self.assertEqual(ask(firms, rows), kept)
            second = ask(firms, rows)
            rows.clear()
            self.assertEqual(second, kept)
        owners = owners_of(ROWS, "a")
        owners.append("q")
        self.assertEqual(owners_of(ROWS, "a"), ["a", "b", "x"])

    def test_the_ring_of_a_refusal_is_the_asker_s_own(self):
        rows = [("a", "b", 1), ("b", "a", 1)]
        for turn in range(2):
            with self.assertRaises(Ringed) as taken:
                checked(["b", "a"], rows)
            self.assertEqual(taken.exception.ring, ["a", "b"])
            taken.exception.ring.clear()


if __name__ == "__main__":
    unittest.main()
