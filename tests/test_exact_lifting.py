"""Point 7: analysis and synthesis without rounding."""

import unittest

from bandpress.errors import BadBands, BadSignal, NotKernel
from bandpress.kernels import Kernel, long_kernel, short_kernel
from bandpress.lifting import analyze_exactly, synthesize_exactly
from tests import reference
from tests.helpers import NOT_EXACT_SIGNALS, NOT_KERNELS, PressTest, faults
from tests.samples import KERNELS, LENGTHS, STARTS, some_ratios, some_steps

ONE = (1, 1)


def exact_signals():
    """Signals of ratios at all starts and of all lengths of the samples, each with the steps of one kernel."""
    for number, steps in enumerate(KERNELS):
        for place, start in enumerate(STARTS):
            for length in LENGTHS[:10] if (number + place) % 5 else LENGTHS:
                yield steps, (start, some_ratios(length, number + start + 1000))


def ratio_bands(pair):
    """Two bands with the ratios of their Fractions."""
    return tuple((start, reference.as_ratios(samples)) for start, samples in pair)


class AnalyzeExactlyTest(PressTest):
    def test_written_out(self):
        signal = (0, ((4, 1), (9, 1), (6, 1), (3, 1)))
        self.same(analyze_exactly(short_kernel(), signal), ((0, ((6, 1), (25, 4))), (0, ((4, 1), (-3, 1)))))
        signal = (1, ((1, 2), (1, 3)))
        self.same(analyze_exactly(Kernel((((1,), 3),)), signal), ((1, ((1, 3),)), (0, ((7, 12),))))

    def test_half_is_not_rounded(self):
        signal = (0, ((1, 1), (0, 1)))
        self.same(analyze_exactly(Kernel((((1,), 8),)), signal), ((0, ((1, 1),)), (0, ((1, 128),))))
        self.same(analyze_exactly(Kernel((((-1,), 2),)), signal), ((0, ((1, 1),)), (0, ((-1, 2),))))

    def test_bands_without_samples_and_single_samples(self):
        kernel = long_kernel()
        self.same(analyze_exactly(kernel, (-3, ())), ((-1, ()), (-2, ())))
        self.same(analyze_exactly(kernel, (4, ((2, 3),))), ((2, ((2, 3),)), (2, ())))
        self.same(analyze_exactly(kernel, (5, ((-2, 3),))), ((3, ()), (2, ((-2, 3),))))

    def test_against_the_reference(self):
        for steps, (start, samples) in exact_signals():
            expected = ratio_bands(reference.analyzed(steps, start, reference.as_fractions(samples), True))
            self.same(analyze_exactly(Kernel(steps), (start, samples)), expected)

    def test_short_signals_and_many_kernels(self):
        for seed in range(40):
            steps = some_steps(seed)
            for length in range(2, 8):
                samples = some_ratios(length, seed)
                expected = ratio_bands(reference.analyzed(steps, 5 - seed, reference.as_fractions(samples), True))
                self.same(analyze_exactly(Kernel(steps), (5 - seed, samples)), expected)

    def test_ratios_of_any_size(self):
        great = 10 ** 200
        signal = (0, ((great, 7), (1, great), (-great, 7)))
        self.same(analyze_exactly(Kernel((((5,), 0),)), signal), ((0, ((great, 7), (-great, 7))), (0, ((1, great),))))

    def test_wrong_arguments(self):
        self.check_order(analyze_exactly, [short_kernel(), (0, (ONE, (1, 2)))],
                         [faults(NotKernel, NOT_KERNELS), faults(BadSignal, NOT_EXACT_SIGNALS)])


class SynthesizeExactlyTest(PressTest):
    def test_written_out(self):
        low, high = (0, ((6, 1), (25, 4))), (0, ((4, 1), (-3, 1)))
        self.same(synthesize_exactly(short_kernel(), low, high), (0, ((4, 1), (9, 1), (6, 1), (3, 1))))

    def test_undoes_analysis(self):
        for steps, signal in exact_signals():
            low, high = analyze_exactly(Kernel(steps), signal)
            self.same(synthesize_exactly(Kernel(steps), low, high), signal)

    def test_is_undone_by_analysis(self):
        for steps, (start, samples) in exact_signals():
            low, high = reference.bands(start, samples)
            signal = synthesize_exactly(Kernel(steps), low, high)
            before = reference.before_steps(steps, start, reference.as_fractions(samples), True)
            self.same(signal, (start, reference.as_ratios(before)))
            self.same(analyze_exactly(Kernel(steps), signal), (low, high))

    def test_only_bands_of_a_signal(self):
        kernel = short_kernel()
        self.fails(BadBands, synthesize_exactly, kernel, (0, (ONE,)), (1, (ONE,)))
        self.fails(BadBands, synthesize_exactly, kernel, (2, (ONE,)), (0, (ONE,)))
        self.fails(BadBands, synthesize_exactly, kernel, (0, (ONE, ONE)), (0, ()))
        self.fails(BadBands, synthesize_exactly, kernel, (0, ()), (0, (ONE,)))
        self.fails(BadBands, synthesize_exactly, kernel, (1, (ONE, ONE)), (0, (ONE,)))
        self.same(synthesize_exactly(Kernel((((0,), 0),)), (1, (ONE,)), (0, (ONE,))), (1, (ONE, ONE)))

    def test_limits_of_the_signal(self):
        kernel = Kernel((((0,), 0),))
        half = (ONE,) * 32
        self.same(synthesize_exactly(kernel, (450, half), (450, half)), (900, (ONE,) * 64))
        self.same(synthesize_exactly(kernel, (-500, half), (-500, half)), (-1000, (ONE,) * 64))
        self.fails(BadBands, synthesize_exactly, kernel, (0, (ONE,) * 33), (0, half))
        self.fails(BadBands, synthesize_exactly, kernel, (1, half), (0, (ONE,) * 33))
        self.fails(BadBands, synthesize_exactly, kernel, (451, half), (450, half))
        self.fails(BadBands, synthesize_exactly, kernel, (-500, half), (-501, half))

    def test_wrong_arguments(self):
        wrong_bands = faults(BadBands, NOT_EXACT_SIGNALS)
        self.check_order(synthesize_exactly, [short_kernel(), (0, (ONE,)), (0, (ONE,))],
                         [faults(NotKernel, NOT_KERNELS), wrong_bands, wrong_bands])


if __name__ == "__main__":
    unittest.main()
