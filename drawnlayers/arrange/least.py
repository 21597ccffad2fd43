"""Least orders of cost tables, and the subset tables that certify them."""


def order_price(costs, order):
    """Return the sum of the costs of (a, b) over all pairs with a before b in the order."""
    return sum([costs[a, b] for at, a in enumerate(order) for b in order[at + 1:]])


def least_order(costs):
    """Return (price, order) of the order with the least price; of several, the least tuple."""
    rows = costs.rows()
    table = subset_table(costs)
    left = tuple(range(costs.size))
    price = table[left]
    order = []
    while left:
        first = _least_first(rows, table, left)
        order.append(first)
        left = _without(left, first)
    return (price, tuple(order))


def subset_table(costs):
    """Return a dict from each subset of the numbers, as an ascending tuple, to the least price of its orders."""
    rows = costs.rows()
    table = {(): 0}
    for subset in _subsets(costs.size):
        if subset != ():
            table[subset] = min([_price_with_last(rows, table, subset, last) for last in subset])
    return table


def check_table(costs, table):
    """Tell whether the dict is the subset table of the costs."""
    return table == subset_table(costs)


def _subsets(size):
    """Return all subsets of the numbers below size; each one stands behind those that it contains."""
    subsets = [()]
    for number in range(size):
        subsets = subsets + [(*subset, number) for subset in subsets]
    return subsets


def _without(subset, member):
    return tuple([other for other in subset if other != member])


def _price_with_last(rows, table, subset, last):
    """Return the least price of the orders of a subset in which the given member stands last."""
    return table[_without(subset, last)] + sum([rows[other][last] for other in subset])


def _least_first(rows, table, subset):
    """Return the least member that stands first in an order of the least price."""
    firsts = [first for first in subset if _price_with_first(rows, table, subset, first) == table[subset]]
    return firsts[0]


def _price_with_first(rows, table, subset, first):
    """Return the least price of the orders of a subset in which the given member stands first."""
    return table[_without(subset, first)] + sum([rows[first][other] for other in subset])
