"""Partitions of values into cells, and centers that move to the averages of the values near them."""

from bandpress.checks import first_wrong, is_integer, is_tuple, is_within
from bandpress.errors import BadCells, BadCenters, BadNumber, BadValues
from bandpress.ratios import is_less, is_ratio, minus, plus, reduced, times


def cells_error(values, cells):
    """The sum of the squared differences of all values to the averages of their cells."""
    check_values(values)
    check_cells(values, cells)
    total = (0, 1)
    for cell in cells:
        total = plus(total, cell_error(cell))
    return total


def best_cells(values, most):
    """The least error of a partition with at most `most` cells, and such a partition in ascending order."""
    check_values(values)
    if not is_within(most, 1, 6):
        raise BadNumber("most is an integer from 1 to 6")
    ordered = tuple(sorted(values))
    ends = range(1, len(ordered) + 1)
    # best[end] is the error and the cells of the best partition of the first values, up to end.
    best = [((0, 1), ()), *[(cell_error(ordered[:end]), (ordered[:end],)) for end in ends]]
    for _ in range(most - 1):
        best = [best[0], *[best_with_last_cell(best, ordered, end) for end in ends]]
    return best[-1]


def assigned(values, centers):
    """The index of the nearest center, for each value; the lower one of two that are equally near."""
    check_values(values)
    check_centers(centers)
    return nearest_centers(values, centers)


def centers_error(values, centers):
    """The sum of the squared differences of all values to their centers."""
    check_values(values)
    check_centers(centers)
    total = (0, 1)
    for value, index in zip(values, nearest_centers(values, centers)):
        away = distance(value, centers[index])
        total = plus(total, times(away, away))
    return total


def moved(values, centers):
    """The centers, each replaced by the average of its values; a center without values stays."""
    check_values(values)
    check_centers(centers)
    return averages(values, centers)


def settle(values, centers):
    """The list of the centers, as given and moved again and again, up to the first that do not move."""
    check_values(values)
    check_centers(centers)
    result = [centers]
    following = averages(values, centers)
    while following != result[-1]:
        result.append(following)
        following = averages(values, following)
    return result


def check_values(value):
    """Raises BadValues for a value that is not 1 to 12 integers from -1000 to 1000."""
    if not is_tuple(value, 1, 12):
        raise BadValues(None)
    wrong = first_wrong(value, is_value)
    if wrong is not None:
        raise BadValues(wrong)


def is_value(value):
    """Whether a value may stand among values."""
    return is_within(value, -1000, 1000)


def check_cells(values, cells):
    """Raises BadCells for cells that are not a partition of values."""
    if not isinstance(cells, tuple):
        raise BadCells(None)
    left = list(values)
    for index, cell in enumerate(cells):
        if not is_cell(cell):
            raise BadCells(index)
        for number in cell:
            if number not in left:
                raise BadCells(index)
            left.remove(number)
    if left != []:
        raise BadCells(None)


def is_cell(value):
    """Whether a value is a tuple of at least one integer."""
    return isinstance(value, tuple) and value != () and first_wrong(value, is_integer) is None


def check_centers(value):
    """Raises BadCenters for a value that is not 1 to 6 ratios that ascend."""
    if not is_tuple(value, 1, 6):
        raise BadCenters(None)
    for index, center in enumerate(value):
        if not is_ratio(center) or index > 0 and not is_less(value[index - 1], center):
            raise BadCenters(index)


def cell_error(cell):
    """The sum of the squared differences of the integers of a cell to their average."""
    squares = sum([number * number for number in cell])
    return reduced(squares * len(cell) - sum(cell) * sum(cell), len(cell))


def best_with_last_cell(best, ordered, end):
    """The best partition of the first values up to end that is one of `best` and a last cell behind it."""
    found = None
    for start in range(end):
        error, cells = best[start]
        last = ordered[start:end]
        error = plus(error, cell_error(last))
        if found is None or is_less(error, found[0]):
            found = (error, (*cells, last))
    return found


def nearest_centers(values, centers):
    """The tuple of the indexes of the centers to which values belong."""
    return tuple([nearest(value, centers) for value in values])


def nearest(value, centers):
    """The index of the center that is nearest to a value, and of two the lower one."""
    found = 0
    for index, center in enumerate(centers):
        if is_less(distance(value, center), distance(value, centers[found])):
            found = index
    return found


def distance(value, center):
    """How far an integer is away from a ratio."""
    above, below = plus((value, 1), minus(center))
    return abs(above), below


def averages(values, centers):
    """The centers, each replaced by the average of the values that belong to it, if there are any."""
    indexes = nearest_centers(values, centers)
    result = []
    for place, center in enumerate(centers):
        own = [value for value, index in zip(values, indexes) if index == place]
        result.append(reduced(sum(own), len(own)) if own != [] else center)
    return tuple(result)
