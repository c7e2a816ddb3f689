import random
import unittest

from groupbooks.chains import chain_costs, chain_gains, layer_cost
from groupbooks.errors import NoNumber
from groupbooks.sharing import portion

LONG = 10 ** 299 + 7
# a bought ten pieces; of them 2 to 8 went to b, of these 4 to 7 to c, for less.
CHAIN = [("a", 100, 0, 10), ("b", 90, 2, 8), ("c", 31, 4, 7)]


def some_chain(source):
    start, stop = 0, source.randint(1, 40)
    layers = []
    for place in range(source.randint(1, 6)):
        layers.append((source.choice("abc"), source.choice([0, 7, source.randint(0, 10 ** 30)]), start, stop))
        start = source.randint(start, stop - 1)
        stop = source.randint(start + 1, stop)
    return layers


def many_chains():
    source = random.Random(39)
    return [some_chain(source) for turn in range(200)]


def spans_of(layer):
    return [(start, stop) for start in range(layer[2], layer[3] + 1) for stop in range(start, layer[3] + 1)]


def spans_outside(layer):
    start, stop = layer[2], layer[3]
    return [
        (start - 1, stop), (start, stop + 1), (start - 1, start), (stop, stop + 1), (start - 1, start - 1),
        (stop + 1, stop + 1), (start - 3, stop + 3), (stop, start), (start + 1, start), (stop, stop - 1),
    ]


class TestLayerCost(unittest.TestCase):
    def test_at_the_begin_in_the_midst_and_at_the_end(self):
        layer = ("a", 10, 0, 3)
        self.assertEqual([layer_cost(layer, at, at + 1) for at in range(3)], [3, 3, 4])
        self.assertEqual(layer_cost(layer, 0, 2), 6)
        self.assertEqual(layer_cost(layer, 1, 3), 7)

    def test_the_whole_span_costs_what_was_paid(self):
        for layer in [layer for layers in many_chains() for layer in layers]:
            self.assertEqual(layer_cost(layer, layer[2], layer[3]), layer[1])

    def test_an_empty_span(self):
        for at in range(4):
            self.assertEqual(layer_cost(("a", 10, 0, 3), at, at), 0)
            self.assertEqual(layer_cost(("a", 10, 20, 23), 20 + at, 20 + at), 0)

    def test_counted_from_the_layer_s_start(self):
        for begin in (1, 2, 5, 100, 10 ** 6):
            layer = ("b", 10, begin, begin + 3)
            self.assertEqual([layer_cost(layer, begin + at, begin + at + 1) for at in range(3)], [3, 3, 4])
            self.assertEqual(layer_cost(layer, begin, begin + 3), 10)

    def test_the_portion_of_the_layer_s_cost(self):
        for firm, cost, start, stop in [layer for layers in many_chains()[::10] for layer in layers]:
            for first, last in spans_of((firm, cost, start, stop)):
                expected = portion(cost, stop - start, first - start, last - start)
                self.assertEqual(layer_cost((firm, cost, start, stop), first, last), expected)

    def test_side_by_side_add_up(self):
        source = random.Random(38)
        for layer in [layer for layers in many_chains() for layer in layers]:
            steps = sorted([layer[2], layer[3]] + [source.randint(layer[2], layer[3]) for turn in range(5)])
            costs = [layer_cost(layer, start, stop) for start, stop in zip(steps, steps[1:])]
            self.assertEqual(sum(costs), layer[1])
            self.assertEqual(sum(costs[2:5]), layer_cost(layer, steps[2], steps[5]))

    def test_a_cost_of_nought_and_of_many_figures(self):
        self.assertEqual(layer_cost(("a", 0, 4, 9), 5, 8), 0)
        self.assertEqual(layer_cost(("a", LONG, 0, 2), 0, 1), LONG // 2)
        self.assertEqual(layer_cost(("a", LONG, 0, 2), 1, 2), LONG - LONG // 2)

    def test_not_within_it(self):
        for layer in (("a", 10, 0, 3), ("a", 10, 5, 8), ("a", 0, 5, 6), ("a", 10, 10 ** 6, 2 * 10 ** 6)):
            for start, stop in spans_outside(layer):
                with self.assertRaises(NoNumber):
                    layer_cost(layer, start, stop)


class TestChainCosts(unittest.TestCase):
    def test_one_layer(self):
        self.assertEqual(chain_costs([("a", 10, 0, 3)], 1, 3), [7])
        self.assertEqual(chain_costs([("a", 10, 0, 3)], 2, 2), [0])

    def test_several_layers(self):
        self.assertEqual(chain_costs(CHAIN, 4, 7), [30, 45, 31])
        self.assertEqual([chain_costs(CHAIN, at, at + 1) for at in (4, 5, 6)], [[10, 15, 10], [10, 15, 10], [10, 15, 11]])
        self.assertEqual(chain_costs(CHAIN[:2], 2, 8), [60, 90])
        self.assertEqual(chain_costs(CHAIN, 5, 5), [0, 0, 0])

    def test_by_each_layer_in_order(self):
        for layers in many_chains():
            for start, stop in spans_of(layers[-1])[:30]:
                self.assertEqual(chain_costs(layers, start, stop), [layer_cost(layer, start, stop) for layer in layers])

    def test_not_within_each_layer(self):
        for layers in many_chains()[::4] + [CHAIN, CHAIN[:1]]:
            for start, stop in spans_outside(layers[-1]):
                with self.assertRaises(NoNumber):
                    chain_costs(layers, start, stop)

    def test_within_some_layers_alone(self):
        for start, stop in ((0, 10), (2, 8), (3, 7), (4, 8)):
            with self.assertRaises(NoNumber):
                chain_costs(CHAIN, start, stop)
        # The span lies within the last layer, but not within the first.
        with self.assertRaises(NoNumber):
            chain_costs([("a", 5, 0, 3), ("b", 5, 2, 6)], 2, 6)

    def test_a_long_chain(self):
        layers = [("a", cost, 0, 7) for cost in range(300)]
        self.assertEqual(chain_costs(layers, 0, 7), list(range(300)))
        self.assertEqual(chain_gains(layers, 0, 7), [("a", 1)] * 299)


class TestChainGains(unittest.TestCase):
    def test_one_layer_has_none(self):
        self.assertEqual(chain_gains([("a", 10, 0, 3)], 0, 3), [])
        self.assertEqual(chain_gains([("a", 10, 0, 3)], 1, 1), [])

    def test_several_layers(self):
        self.assertEqual(chain_gains(CHAIN, 4, 7), [("a", 15), ("b", -14)])
        self.assertEqual(chain_gains(CHAIN[:2], 2, 8), [("a", 30)])
        self.assertEqual(chain_gains(CHAIN, 6, 7), [("a", 5), ("b", -4)])
        self.assertEqual(chain_gains(CHAIN, 6, 6), [("a", 0), ("b", 0)])

    def test_below_nought(self):
        self.assertEqual(chain_gains([("a", 10, 0, 3), ("b", 0, 0, 3)], 0, 1), [("a", -3)])
        self.assertEqual(chain_gains([("a", LONG, 0, 1), ("b", 0, 0, 1)], 0, 1), [("a", -LONG)])

    def test_a_firm_twice(self):
        layers = [("a", 6, 0, 3), ("a", 9, 0, 3), ("b", 3, 0, 3), ("a", 30, 0, 3)]
        self.assertEqual(chain_gains(layers, 1, 2), [("a", 1), ("a", -2), ("b", 9)])

    def test_they_come_to_the_last_cost_less_the_first(self):
        for layers in many_chains():
            for start, stop in spans_of(layers[-1])[:30]:
                gains = chain_gains(layers, start, stop)
                costs = chain_costs(layers, start, stop)
                self.assertEqual([firm for firm, gain in gains], [layer[0] for layer in layers[:-1]])
                self.assertEqual([gain for firm, gain in gains], [two - one for one, two in zip(costs, costs[1:])])
                self.assertEqual(sum(gain for firm, gain in gains), costs[-1] - costs[0])

    def test_not_within_each_layer(self):
        for layers in many_chains()[::4] + [CHAIN, CHAIN[:1]]:
            for start, stop in spans_outside(layers[-1]):
                with self.assertRaises(NoNumber):
                    chain_gains(layers, start, stop)
        with self.assertRaises(NoNumber):
            chain_gains([("a", 5, 0, 3), ("b", 5, 2, 6)], 2, 6)

    def test_of_one_layer_too(self):
        for start, stop in ((0, 4), (-1, 3), (2, 1), (4, 4)):
            with self.assertRaises(NoNumber):
                chain_gains([("a", 10, 0, 3)], start, stop)


class TestHandedIn(unittest.TestCase):
    def test_what_is_handed_in_stays(self):
        layers = list(CHAIN)
        chain_costs(layers, 4, 7)
        chain_gains(layers, 4, 7)
        self.assertEqual(layers, CHAIN)

    def test_what_is_told_is_the_asker_s_own(self):
        layers = list(CHAIN)
        costs, gains = chain_costs(layers, 4, 7), chain_gains(layers, 4, 7)
        layers.pop()
        self.assertEqual((costs, gains), ([30, 45, 31], [("a", 15), ("b", -14)]))
        costs.clear()
        gains.clear()
        self.assertEqual((chain_costs(CHAIN, 4, 7), chain_gains(CHAIN, 4, 7)), ([30, 45, 31], [("a", 15), ("b", -14)]))

    def test_behind_a_refusal(self):
        with self.assertRaises(NoNumber):
            chain_gains(CHAIN, 0, 10)
        self.assertEqual(chain_gains(CHAIN, 4, 7), [("a", 15), ("b", -14)])


if __name__ == "__main__":
    unittest.main()
