"""Atoms: what exact synthesis makes of one coefficient, and how errors of coefficients reach the samples."""

from bandpress.checks import first_wrong, is_tuple, is_within
from bandpress.errors import BadBounds, BadPosition
from bandpress.kernels import check_kernel
from bandpress.ratios import is_ratio, minus, plus, times
from bandpress.signals import joined
from bandpress.spans import check_levels, check_signal_span, even_indexes, odd_indexes
from bandpress.steps import exactly_unlifted


def places(span, levels):
    """The ascending tuple of all places (band, index)."""
    check_signal_span(span)
    check_levels(levels, 4)
    return tuple(all_places(span, levels))


def atom(kernel, span, levels, place):
    """The samples that exact synthesis makes of the coefficient 1 at a place."""
    check_transform(kernel, span, levels)
    check_place(place, span, levels)
    return samples_of(kernel, span, levels, place)


def reached(kernel, span, levels, place):
    """The positions at which the atom of a place is not 0."""
    samples = atom(kernel, span, levels, place)
    return tuple([span[0] + index for index, sample in enumerate(samples) if sample[0] != 0])


def needed(kernel, span, levels, position):
    """The places whose atoms are not 0 at a position."""
    check_transform(kernel, span, levels)
    check_position(position, span)
    index = position - span[0]
    atoms = all_atoms(kernel, span, levels)
    return tuple([place for place, samples in atoms if samples[index][0] != 0])


def worst_errors(kernel, span, levels, bounds):
    """The greatest error of each sample if each coefficient is wrong by at most the bound of its band."""
    check_transform(kernel, span, levels)
    check_bounds(bounds, levels)
    totals = [(0, 1)] * (span[1] - span[0])
    for (band, _), samples in all_atoms(kernel, span, levels):
        for index, (above, below) in enumerate(samples):
            totals[index] = plus(totals[index], times(bounds[band], (abs(above), below)))
    return tuple(totals)


def worst_case(kernel, span, levels, bounds, position):
    """The errors of all coefficients, band by band, that attain the greatest error at a position."""
    check_transform(kernel, span, levels)
    check_bounds(bounds, levels)
    check_position(position, span)
    index = position - span[0]
    errors = [[] for _ in bounds]
    for (band, _), samples in all_atoms(kernel, span, levels):
        bound = bounds[band]
        errors[band].append(bound if samples[index][0] >= 0 else minus(bound))
    return tuple([tuple(band_errors) for band_errors in errors])


def norm(kernel, span, levels, place):
    """The sum of the squares of an atom."""
    return sum_of_squares(atom(kernel, span, levels, place))


def mean_square(kernel, span, levels, bounds):
    """The average sum of squared errors over all signs, each coefficient being wrong by its bound."""
    check_transform(kernel, span, levels)
    check_bounds(bounds, levels)
    total = (0, 1)
    for (band, _), samples in all_atoms(kernel, span, levels):
        bound = bounds[band]
        total = plus(total, times(times(bound, bound), sum_of_squares(samples)))
    return total


def check_transform(kernel, span, levels):
    """Raises NotKernel, BadSpan or BadLevels for values that do not tell a transform."""
    check_kernel(kernel)
    check_signal_span(span)
    check_levels(levels, 4)


def check_place(value, span, levels):
    """Raises BadPosition for a value that is not a place."""
    if not is_tuple(value, 2, 2) or not is_within(value[0], 0, levels):
        raise BadPosition("a place is a tuple (band, index)")
    start, stop = band_spans(span, levels)[value[0]]
    if not is_within(value[1], start, stop - 1):
        raise BadPosition("the index of a place is one of its band")


def check_position(value, span):
    """Raises BadPosition for a value that is not a position of a span."""
    start, stop = span
    if not is_within(value, start, stop - 1):
        raise BadPosition("the position is not in the span")


def check_bounds(value, levels):
    """Raises BadBounds for a value that is not a tuple of a bound for each band."""
    if not is_tuple(value, levels + 1, levels + 1):
        raise BadBounds(None)
    wrong = first_wrong(value, is_bound)
    if wrong is not None:
        raise BadBounds(wrong)


def is_bound(value):
    """Whether a value is a ratio that is not below 0."""
    return is_ratio(value) and value[0] >= 0


def band_spans(span, levels):
    """The list of the spans of all bands, band 0 first."""
    high_spans = []
    for _ in range(levels):
        high_spans = [odd_indexes(span), *high_spans]
        span = even_indexes(span)
    return [span, *high_spans]


def all_places(span, levels):
    """The list of all places."""
    spans = band_spans(span, levels)
    return [(band, index) for band, (start, stop) in enumerate(spans) for index in range(start, stop)]


def all_atoms(kernel, span, levels):
    """The list of all places, each with the samples of its atom."""
    return [(place, samples_of(kernel, span, levels, place)) for place in all_places(span, levels)]


def samples_of(kernel, span, levels, place):
    """The samples of the atom of a place."""
    low, *high_bands = [one_coefficient(band, band_span, place)
                        for band, band_span in enumerate(band_spans(span, levels))]
    for high in high_bands:
        start, samples = joined(low, high)
        low = (start, exactly_unlifted(kernel.steps, start, samples))
    return low[1]


def one_coefficient(band, span, place):
    """A band, (start, samples), with 1 at a place and 0 elsewhere."""
    start, stop = span
    return start, tuple([(1, 1) if (band, index) == place else (0, 1) for index in range(start, stop)])


def sum_of_squares(ratios):
    """The sum of the squares of ratios."""
    total = (0, 1)
    for value in ratios:
        total = plus(total, times(value, value))
    return total
