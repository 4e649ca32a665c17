"""Lifting steps on lists of samples, taken forth and back, with rounding and without."""

from bandpress.ratios import over_common, ratios_over


def lifted(steps, start, samples):
    """The samples after all the steps, one after another."""
    result = list(samples)
    for number, step in enumerate(steps):
        result = rounded_step(result, changed_indexes(start, len(result), number), step, 1)
    return tuple(result)


def unlifted(steps, start, samples):
    """The samples of which `lifted` makes these."""
    result = list(samples)
    for number in reversed(range(len(steps))):
        result = rounded_step(result, changed_indexes(start, len(result), number), steps[number], -1)
    return tuple(result)


def exactly_lifted(steps, start, samples):
    """The samples, ratios, after all the steps without rounding."""
    result, below = over_common(samples)
    for number, step in enumerate(steps):
        result = exact_step(result, changed_indexes(start, len(result), number), step, 1)
    return ratios_over(result, below << total_shift(steps))


def exactly_unlifted(steps, start, samples):
    """The samples, ratios, of which `exactly_lifted` makes these."""
    result, below = over_common(samples)
    for number in reversed(range(len(steps))):
        result = exact_step(result, changed_indexes(start, len(result), number), steps[number], -1)
    return ratios_over(result, below << total_shift(steps))


def changed_indexes(start, length, number):
    """The indexes of the samples that a step changes: odd positions first, then even ones, in turn."""
    if length < 2:
        return []
    return list(range((start + number + 1) & 1, length, 2))


def rounded_step(samples, changed, step, sign):
    """The samples after a step (sign 1), or before it (sign -1)."""
    weights, shift = step
    half = (1 << shift) >> 1
    result = list(samples)
    for index in changed:
        result[index] += sign * ((weighted_sum(samples, index, weights) + half) >> shift)
    return result


def exact_step(samples, changed, step, sign):
    """The numerators after a step, or before it, over a denominator that is 2 ** shift times as great."""
    weights, shift = step
    result = [sample << shift for sample in samples]
    for index in changed:
        result[index] += sign * weighted_sum(samples, index, weights)
    return result


def weighted_sum(samples, index, weights):
    """The weighted sum that a step reads around an index."""
    last = len(samples) - 1
    total = 0
    for place, weight in enumerate(weights):
        reach = 1 + 2 * place
        total += weight * (samples[mirrored(index - reach, last)] + samples[mirrored(index + reach, last)])
    return total


def mirrored(index, last):
    """The index from 0 to last, last being 1 or more, that stands for an index beyond the ends."""
    # Mirrored at both ends again and again, the indexes repeat after a way there and back.
    turn = index % (2 * last)
    return min(turn, 2 * last - turn)


def total_shift(steps):
    """By how many binary digits all the steps together shift."""
    return sum([shift for _, shift in steps])
