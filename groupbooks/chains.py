"""What a span of a lot's pieces costs by each layer of its chain."""

from groupbooks.sharing import portion


def layer_cost(layer, start, stop):
    begin = layer[2]
    return portion(layer[1], layer[3] - begin, start - begin, stop - begin)


def chain_costs(layers, start, stop):
    return [layer_cost(layer, start, stop) for layer in layers]


def chain_gains(layers, start, stop):
    costs = chain_costs(layers, start, stop)
    return [(layers[place - 1][0], costs[place] - costs[place - 1]) for place in range(1, len(layers))]
