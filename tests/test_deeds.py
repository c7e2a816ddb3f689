import inspect
import unittest

from groupbooks import deeds, sisters
from groupbooks.deeds import Buy, Change, Deed, Joint, Sell
from groupbooks.sisters import Charge, Fund, Hand, Payout

SIDES = [("a", "cash", "usd", -5), ("b", "rent", "usd", 5)]
PARTS = [("b", 3), ("c", 4), ("b", 3)]

# Each kind with its values, in the order in which they are told; the account last.
VALUES = {
    Joint: {"day": 0, "sides": SIDES},
    Change: {"day": 31, "firm": "a", "coin": "usd", "amount": 8, "other": "eur", "gets": 7, "account": "bank"},
    Buy: {"day": 2, "firm": "b", "coin": "usd", "amount": 10 ** 30, "many": 10 ** 6, "account": "bank"},
    Sell: {"day": 3, "firm": "a", "coin": "eur", "amount": 9, "holding": 12, "many": 4, "account": "bank"},
    Hand: {"day": 4, "firm": "a", "sister": "b", "coin": "usd", "amount": 5, "holding": 1, "many": 3},
    Charge: {"day": 5, "firm": "a", "coin": "usd", "parts": PARTS},
    Fund: {"day": 6, "firm": "a", "sister": "c", "coin": "eur", "amount": 70, "account": "bank"},
    Payout: {"day": 9999, "firm": "c", "coin": "usd", "amount": 1, "account": "bank"},
}
WITH_ACCOUNT = [kind for kind in VALUES if "account" in VALUES[kind]]


def values_of(deed):
    return {name: getattr(deed, name) for name in VALUES[type(deed)]}


class TestKinds(unittest.TestCase):
    def test_where_they_are(self):
        for name in ("Deed", "Joint", "Change", "Buy", "Sell"):
            self.assertEqual(getattr(deeds, name).__module__, "groupbooks.deeds")
        for name in ("Hand", "Charge", "Fund", "Payout"):
            self.assertEqual(getattr(sisters, name).__module__, "groupbooks.sisters")

    def test_eight_kinds_each_under_deed_and_under_no_other(self):
        self.assertEqual(len(VALUES), 8)
        for one in VALUES:
            self.assertTrue(issubclass(one, Deed))
            self.assertIsNot(one, Deed)
            for other in VALUES:
                self.assertEqual(issubclass(one, other), one is other)

    def test_a_deed_is_of_its_own_kind_alone(self):
        for kind in VALUES:
            deed = kind(**VALUES[kind])
            self.assertIsInstance(deed, Deed)
            self.assertEqual([other for other in VALUES if isinstance(deed, other)], [kind])

    def test_the_base(self):
        self.assertEqual(Deed(7).day, 7)
        self.assertEqual(Deed(day=0).day, 0)


class TestValues(unittest.TestCase):
    def test_told_in_order(self):
        for kind, values in VALUES.items():
            self.assertEqual(values_of(kind(*values.values())), values)

    def test_told_by_name(self):
        for kind, values in VALUES.items():
            self.assertEqual(values_of(kind(**values)), values)

    def test_just_these_arguments(self):
        for kind, values in VALUES.items():
            self.assertEqual(list(inspect.signature(kind).parameters), list(values))
            with self.assertRaises(TypeError):
                kind(*values.values(), "more")

    def test_all_but_the_account_are_to_be_told(self):
        for kind, values in VALUES.items():
            needed = [name for name in values if name != "account"]
            for name in needed:
                with self.assertRaises(TypeError):
                    kind(**{other: values[other] for other in values if other != name})

    def test_the_account_is_cash_where_none_is_told(self):
        self.assertEqual(WITH_ACCOUNT, [Change, Buy, Sell, Fund, Payout])
        for kind in WITH_ACCOUNT:
            values = dict(VALUES[kind])
            values.pop("account")
            self.assertEqual(values_of(kind(*values.values())), {**values, "account": "cash"})

    def test_hand_charge_and_joint_tell_no_account(self):
        for kind in (Hand, Charge, Joint):
            self.assertFalse(hasattr(kind(**VALUES[kind]), "account"))

    def test_nothing_is_refused_where_a_deed_is_made(self):
        low = [
            Change(0, "zeta", "usd", 0, "usd", -5, "*goods"), Buy(0, "a", "usd", -1, 0), Sell(0, "a", "usd", 0, -4, -1),
            Hand(0, "a", "a", "usd", 0, 0, 0), Charge(0, "a", "usd", [("a", -2)]), Fund(0, "a", "a", "usd", -1),
            Payout(0, "a", "usd", 0), Joint(0, [("a", "cash", "usd", 5)]),
        ]
        self.assertEqual([low[0].gets, low[1].many, low[2].holding, low[3].sister], [-5, 0, -4, "a"])
        self.assertEqual([low[4].parts, low[5].amount, low[6].amount], [[("a", -2)], -1, 0])
        self.assertEqual(low[7].sides, [("a", "cash", "usd", 5)])


class TestLists(unittest.TestCase):
    def test_no_sides_and_no_parts(self):
        self.assertEqual(Joint(3, []).sides, [])
        self.assertEqual(Charge(3, "a", "usd", []).parts, [])

    def test_as_lists_of_their_own(self):
        sides, parts = list(SIDES), list(PARTS)
        joint, charge = Joint(3, sides), Charge(3, "a", "usd", parts)
        self.assertIsInstance(joint.sides, list)
        self.assertIsInstance(charge.parts, list)
        sides.append(("a", "cash", "usd", 1))
        sides[0] = ("z", "cash", "usd", 1)
        parts.clear()
        self.assertEqual((joint.sides, charge.parts), (SIDES, PARTS))

    def test_what_is_handed_in_stays(self):
        sides, parts = list(SIDES), list(PARTS)
        joint, charge = Joint(3, sides), Charge(3, "a", "usd", parts)
        joint.sides.pop()
        charge.parts.pop()
        self.assertEqual((sides, parts), (SIDES, PARTS))

    def test_two_deeds_of_one_list(self):
        sides, parts = list(SIDES), list(PARTS)
        joints = [Joint(3, sides), Joint(3, sides)]
        charges = [Charge(3, "a", "usd", parts), Charge(3, "a", "usd", parts)]
        joints[0].sides.clear()
        charges[0].parts.clear()
        self.assertEqual((joints[1].sides, charges[1].parts), (SIDES, PARTS))


if __name__ == "__main__":
    unittest.main()
