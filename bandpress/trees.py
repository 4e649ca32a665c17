"""What writers and readers of tag trees have in common: bounds of nodes, and how queries raise them."""

from bandpress.checks import is_within
from bandpress.errors import BadLeaf, BadThreshold

GREATEST = 30


class Nodes:
    """The nodes (level, row, column) of a tree: their bounds, if these are not 0, and which nodes are closed."""

    def __init__(self, height, width):
        self.height = height
        self.width = width
        self.bounds = {}
        self.closed = {}


class ValueBits:
    """Tells the bits that the values of a tree give, and keeps them in the list `told`."""

    def __init__(self, levels):
        self._levels = levels
        self.told = []

    def value_is(self, node, bound):
        """Whether the value of a node is a bound."""
        level, row, column = node
        is_same = self._levels[level][row][column] == bound
        self.told.append(1 if is_same else 0)
        return is_same


def copied(nodes):
    """Nodes with the same bounds, of which the ones may change without the others."""
    result = Nodes(nodes.height, nodes.width)
    result.bounds = {node: nodes.bounds[node] for node in nodes.bounds}
    result.closed = {node: True for node in nodes.closed}
    return result


def top_level(nodes):
    """The level of the root."""
    return (max(nodes.height, nodes.width) - 1).bit_length()


def path_to(nodes, row, column):
    """The nodes from the root to a leaf."""
    return [(level, row >> level, column >> level) for level in reversed(range(top_level(nodes) + 1))]


def visit(nodes, row, column, threshold, source):
    """Raises the bounds of the nodes from the root to a leaf up to a threshold, by the bits of a source."""
    bound = 0
    for node in path_to(nodes, row, column):
        bound = max(bound, nodes.bounds.get(node, 0))
        while node not in nodes.closed and bound < threshold:
            if source.value_is(node, bound):
                nodes.closed[node] = True
            else:
                bound += 1
        nodes.bounds[node] = bound


def limits_of(nodes):
    """The rows of the limits (least, most) of all leaves, or None if no values have these bounds."""
    leasts = {(row, column): max([nodes.bounds.get(node, 0) for node in path_to(nodes, row, column)])
              for row in range(nodes.height) for column in range(nodes.width)}
    mosts = {leaf: GREATEST for leaf in leasts}
    for node in nodes.closed:
        # One of the leaves below has the value of the node. If just one can, it has.
        able = [leaf for leaf in leasts if is_below(leaf, node) and leasts[leaf] == nodes.bounds[node]]
        if able == []:
            return None
        if len(able) == 1:
            mosts[able[0]] = nodes.bounds[node]
    return tuple([tuple([(leasts[(row, column)], mosts[(row, column)]) for column in range(nodes.width)])
                  for row in range(nodes.height)])


def is_below(leaf, node):
    """Whether a leaf (row, column) lies below a node, or is it."""
    level, row, column = node
    return leaf[0] >> level == row and leaf[1] >> level == column


def is_leaf(row, column, height, width):
    """Whether values are the row and the column of a leaf."""
    return is_within(row, 0, height - 1) and is_within(column, 0, width - 1)


def is_threshold(value):
    """Whether a value is a threshold."""
    return is_within(value, 0, GREATEST)


def check_query(row, column, threshold, nodes):
    """Raises BadLeaf or BadThreshold for values that make no query."""
    if not is_leaf(row, column, nodes.height, nodes.width):
        raise BadLeaf("the tree has no leaf in this row and column")
    if not is_threshold(threshold):
        raise BadThreshold("a threshold is an integer from 0 to 30")
