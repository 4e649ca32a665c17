"""What a kernel does without ends and without rounding: one filter for even and one for odd positions."""

from bandpress.errors import BadSignal
from bandpress.kernels import check_kernel
from bandpress.ratios import over_common, ratios_over, reduced
from bandpress.signals import check_exact_signal, parted
from bandpress.steps import mirrored, total_shift


def filters(kernel):
    """The filters (low, high) that make the samples at even and at odd positions."""
    check_kernel(kernel)
    low, high = filter_tables(kernel.steps)
    below = 1 << total_shift(kernel.steps)
    return pairs_of(low, below), pairs_of(high, below)


def filtered(kernel, signal):
    """The bands that the filters make of a signal of ratios with mirrored ends."""
    check_kernel(kernel)
    check_exact_signal(signal)
    start, samples = signal
    if len(samples) < 2:
        raise BadSignal("a signal that is filtered has at least two samples")
    numerators, below = over_common(samples)
    tables = filter_tables(kernel.steps)
    sums = [filter_sum(tables[(start + index) & 1], numerators, index) for index in range(len(numerators))]
    return parted(start, ratios_over(sums, below << total_shift(kernel.steps)))


def duals(kernel):
    """What synthesis makes of one coefficient 1 at an even position (low) and at an odd one (high)."""
    check_kernel(kernel)
    below = 1 << total_shift(kernel.steps)
    low = dual_table(kernel.steps, 0)
    high = dual_table(kernel.steps, 1)
    return pairs_of(low, below), pairs_of(high, below)


def pairs_of(table, below):
    """The ascending pairs (offset, weight) of a table of numerators, without weights of 0."""
    return tuple([(offset, reduced(table[offset], below)) for offset in sorted(table) if table[offset] != 0])


def filter_tables(steps):
    """The filters for even and odd positions as dicts of numerators over 2 ** total_shift."""
    tables = [{0: 1}, {0: 1}]
    for number, (weights, shift) in enumerate(steps):
        changed = (number + 1) & 1
        read = tables[1 - changed]
        tables = [scaled(table, shift) for table in tables]
        tables[changed] = with_spread(tables[changed], read, weights)
    return tables


def dual_table(steps, parity):
    """The samples around a coefficient at a position of a parity, as a dict of numerators by offset."""
    table = {0: 1}
    for number in reversed(range(len(steps))):
        weights, shift = steps[number]
        # A step reads positions of the parity of its number, which the offsets tell from that of the coefficient.
        read = {offset: table[offset] for offset in table if (offset + parity - number) & 1 == 0}
        table = with_spread(scaled(table, shift), read, [-weight for weight in weights])
    return table


def scaled(table, shift):
    """A table of numerators over a denominator that is 2 ** shift times as great."""
    return {offset: table[offset] << shift for offset in table}


def with_spread(table, read, weights):
    """The sum of a table and of what a step with these weights makes of the one that it reads."""
    result = dict(table)
    for place, weight in enumerate(weights):
        for offset in read:
            for target in (offset - 1 - 2 * place, offset + 1 + 2 * place):
                result[target] = result.get(target, 0) + weight * read[offset]
    return result


def filter_sum(table, samples, index):
    """The sum of a filter at an index of samples with mirrored ends."""
    last = len(samples) - 1
    return sum([table[offset] * samples[mirrored(index + offset, last)] for offset in table])
