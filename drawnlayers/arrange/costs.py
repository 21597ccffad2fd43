"""Cost tables."""

from drawnlayers.errors import NoPair, SizesDiffer


class Costs:
    """What it costs, for each two different numbers, if the first one stands before the second one."""

    def __init__(self, size):
        self.size = size
        self._table = [[0] * size for _ in range(size)]

    def __iter__(self):
        raise TypeError("a cost table is not iterated over: ask for its rows")

    def __getitem__(self, at):
        a, b = at
        _check_pair(self.size, a, b)
        return self._table[a][b]

    def __setitem__(self, at, worth):
        a, b = at
        self.put(a, b, worth)

    def __add__(self, other):
        _check_sizes(self.size, other.size)
        return Costs.of(_added(self._table, other._table))

    def __iadd__(self, other):
        _check_sizes(self.size, other.size)
        self._table = _added(self._table, other._table)
        return self

    def put(self, a, b, cost):
        """Set the cost of the pair (a, b)."""
        _check_pair(self.size, a, b)
        self._table[a][b] = cost

    def rows(self):
        """Return the tuple of the rows; row a has the costs of (a, b) for all b."""
        return tuple([tuple(row) for row in self._table])

    @staticmethod
    def of(rows):
        """Return a table with these rows; what stands for (a, a) does not matter."""
        table = Costs(len(rows))
        table._table = _copied(rows)
        return table


def _check_pair(size, a, b):
    if a == b or not 0 <= a < size or not 0 <= b < size:
        raise NoPair(a, b)


def _check_sizes(first, second):
    if first != second:
        raise SizesDiffer(first, second)


def _copied(rows):
    return [[cost if a != b else 0 for b, cost in enumerate(row)] for a, row in enumerate(rows)]


def _added(first, second):
    return [[x + y for x, y in zip(one, other)] for one, other in zip(first, second)]
