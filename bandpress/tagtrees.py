"""Tag trees: bits that tell whether values are less than thresholds, and what a reader learns from them."""

from bandpress.bitstrings import HeardBits, check_bit_position, check_bits
from bandpress.checks import is_rows, is_tuple, is_within
from bandpress.errors import BadBits, BadQueries, BadTree
from bandpress.shapes import LONGEST_SIDE, check_shape
from bandpress.trees import GREATEST, Nodes, ValueBits
from bandpress.trees import check_query, copied, is_leaf, is_threshold, limits_of, visit

MOST_QUERIES = 400


class TagWriter:
    """Writes the bits of queries in a tree."""

    def __init__(self, values):
        check_tree(values)
        self._levels = levels_of(values)
        self._nodes = nodes_of(values)

    def ask(self, row, column, threshold):
        """The bits of a query, given all queries before it."""
        check_query(row, column, threshold, self._nodes)
        source = ValueBits(self._levels)
        visit(self._nodes, row, column, threshold, source)
        return tuple(source.told)


class TagReader:
    """Reads the bits of queries in a tree of which the shape is known."""

    def __init__(self, height, width):
        check_shape((height, width))
        self._nodes = Nodes(height, width)

    def hear(self, row, column, threshold, bits, position):
        """Reads the bits of a query from a position on, and returns the position behind them."""
        check_query(row, column, threshold, self._nodes)
        check_bits(bits)
        check_bit_position(position, bits)
        # What is heard counts only if it is right to the end.
        nodes = copied(self._nodes)
        source = HeardBits(bits, position)
        visit(nodes, row, column, threshold, source)
        if limits_of(nodes) is None:
            raise BadBits(None)
        self._nodes = nodes
        return source.behind

    def limits(self):
        """The rows of the least and the greatest value that each leaf can have."""
        return limits_of(self._nodes)


def tree_levels(values):
    """The tuple of the levels of a tree, the values first."""
    check_tree(values)
    return levels_of(values)


def write_queries(values, queries):
    """The bits of queries, one behind another."""
    check_tree(values)
    nodes = nodes_of(values)
    check_queries(queries, nodes.height, nodes.width)
    source = ValueBits(levels_of(values))
    for row, column, threshold in queries:
        visit(nodes, row, column, threshold, source)
    return tuple(source.told)


def count_bits(values, queries):
    """The number of the bits of queries."""
    return len(write_queries(values, queries))


def read_queries(shape, queries, bits):
    """The rows of the least and the greatest value that each leaf can have if queries have these bits."""
    check_shape(shape)
    height, width = shape
    check_queries(queries, height, width)
    check_bits(bits)
    nodes = Nodes(height, width)
    source = HeardBits(bits, 0)
    for row, column, threshold in queries:
        visit(nodes, row, column, threshold, source)
    if source.behind < len(bits):
        raise BadBits(source.behind)
    found = limits_of(nodes)
    if found is None:
        raise BadBits(None)
    return found


def is_tree_value(value):
    """Whether a value may be one of a tree."""
    return is_within(value, 0, GREATEST)


def check_tree(value):
    """Raises BadTree for a value that is not the rows of values of a tree."""
    if not is_rows(value, LONGEST_SIDE, is_tree_value):
        raise BadTree("the values of a tree are 1 to 8 rows of 1 to 8 integers from 0 to 30")


def check_queries(value, height, width):
    """Raises BadQueries for a value that is not a tuple of at most 400 queries."""
    if not is_tuple(value, 0, MOST_QUERIES):
        raise BadQueries(None)
    for index, query in enumerate(value):
        if not is_tuple(query, 3, 3) or not is_leaf(query[0], query[1], height, width) or not is_threshold(query[2]):
            raise BadQueries(index)


def nodes_of(values):
    """The nodes of a tree with these rows of values, no query having been asked yet."""
    return Nodes(len(values), len(values[0]))


def levels_of(values):
    """The tuple of the levels of a tree whose values were checked before."""
    levels = [values]
    while len(levels[-1]) > 1 or len(levels[-1][0]) > 1:
        levels.append(level_above(levels[-1]))
    return tuple(levels)


def level_above(rows):
    """The next level: the least of each up to four values."""
    return tuple([tuple([least_of_four(rows, row, column) for column in range(0, len(rows[0]), 2)])
                  for row in range(0, len(rows), 2)])


def least_of_four(rows, top, left):
    """The least of the up to four values from a row and a column on."""
    return min([value for row in rows[top:top + 2] for value in row[left:left + 2]])
