import unittest

from groupbooks import errors

# Each refusal with the names of its values, as the interface tells them.
VALUES = {
    "NoNumber": (),
    "NoRate": ("coin", "day"),
    "Twice": ("coin", "day"),
    "Unbalanced": ("book", "coin", "rest"),
    "Closed": ("book", "month"),
    "BadPaper": ("book", "month"),
    "NoFirm": ("name",),
    "BadAmount": ("amount",),
    "Unheld": ("firm",),
    "Ringed": ("ring",),
    "Singular": ("mix",),
    "NoSister": ("name",),
    "NoAccount": ("account",),
    "NoGoods": ("holding",),
    "TooFew": ("holding", "lack"),
    "NoDeed": ("number",),
    "Broken": ("number",),
    "NoRow": (),
}

SAMPLES = {
    "coin": "usd", "day": 31, "book": "a", "rest": -7, "month": 2, "name": "zeta",
    "amount": 0, "firm": "b", "ring": ["a", "b"], "mix": [0, -3, 5], "account": ".due.a",
    "holding": 12, "lack": 4, "number": 9,
}


def made(name):
    return getattr(errors, name)(*[SAMPLES[value] for value in VALUES[name]])


class TestErrors(unittest.TestCase):
    def test_base_stands_under_value_error(self):
        self.assertEqual(errors.BooksError.__bases__, (ValueError,))

    def test_each_stands_under_the_base_and_under_no_other(self):
        classes = [getattr(errors, name) for name in VALUES]
        self.assertEqual(len(set(classes)), len(VALUES))
        for one in classes:
            self.assertTrue(issubclass(one, errors.BooksError))
            self.assertIsNot(one, errors.BooksError)
            for other in classes:
                self.assertEqual(issubclass(one, other), one is other)

    def test_values_by_their_names_in_their_order(self):
        for name, values in VALUES.items():
            error = made(name)
            for value in values:
                self.assertEqual(getattr(error, value), SAMPLES[value], (name, value))

    def test_made_of_just_these_values(self):
        for name, values in VALUES.items():
            if values:
                with self.assertRaises(TypeError):
                    getattr(errors, name)()
                with self.assertRaises(TypeError):
                    getattr(errors, name)(*[SAMPLES[value] for value in values], "more")

    def test_values_of_either_sign_and_empty(self):
        self.assertEqual(errors.BadPaper("a", -1).month, -1)
        self.assertEqual(errors.Unbalanced("a", "", 10 ** 40).coin, "")
        self.assertEqual(errors.Unbalanced("a", "", 10 ** 40).rest, 10 ** 40)
        self.assertEqual(errors.Ringed([]).ring, [])

    def test_made_of_nothing_or_of_one_text(self):
        for one in (errors.NoNumber, errors.NoRow):
            self.assertIsInstance(one(), errors.BooksError)
            self.assertIsInstance(one("why"), errors.BooksError)

    def test_can_be_raised_and_taken_by_any_of_its_names(self):
        for name in VALUES:
            for taken in (getattr(errors, name), errors.BooksError, ValueError):
                with self.assertRaises(taken):
                    raise made(name)

    def test_lists_are_their_own(self):
        ring = ["a", "b"]
        mix = [1, -1]
        ringed = errors.Ringed(ring)
        singular = errors.Singular(mix)
        ring.append("c")
        mix[0] = 7
        self.assertEqual(ringed.ring, ["a", "b"])
        self.assertEqual(singular.mix, [1, -1])
        ringed.ring.append("d")
        singular.mix.append(0)
        self.assertEqual(ring, ["a", "b", "c"])
        self.assertEqual(mix, [7, -1])


if __name__ == "__main__":
    unittest.main()
