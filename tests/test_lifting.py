"""Points 5 and 6: signals, their stages, analysis and synthesis."""

import unittest

from bandpress.errors import BadBands, BadSignal, BadStage, NotKernel
from bandpress.kernels import Kernel, long_kernel, short_kernel
from bandpress.lifting import analyze, stage, synthesize
from tests import reference
from tests.helpers import NOT_INTEGERS, NOT_KERNELS, NOT_WHOLE_SIGNALS, PressTest, faults
from tests.samples import KERNELS, LENGTHS, STARTS, some_samples, some_steps


def whole_signals():
    """Signals at all starts and of all lengths of the samples, each with the steps of one kernel."""
    for number, steps in enumerate(KERNELS):
        for start in STARTS:
            for length in LENGTHS:
                yield steps, (start, some_samples(length, number + start))


class StageTest(PressTest):
    def test_written_out(self):
        kernel = short_kernel()
        self.same(stage(kernel, (0, (4, 9, 6, 3)), 0), (0, (4, 9, 6, 3)))
        self.same(stage(kernel, (0, (4, 9, 6, 3)), 1), (0, (4, 4, 6, -3)))
        self.same(stage(kernel, (0, (4, 9, 6, 3)), 2), (0, (6, 4, 6, -3)))

    def test_sums_are_rounded_up_from_the_half(self):
        kernel = Kernel((((1,), 2),))
        for neighbor, added in ((-4, -2), (-3, -1), (-2, -1), (-1, 0), (0, 0), (1, 1), (2, 1), (3, 2), (4, 2)):
            self.same(stage(kernel, (0, (neighbor, 10)), 1), (0, (neighbor, 10 + added)))

    def test_shift_zero_does_not_round(self):
        self.same(stage(Kernel((((3,), 0),)), (0, (2, 1, -5)), 1), (0, (2, 1 + 3 * -3, -5)))

    def test_steps_change_odd_and_even_positions_in_turn(self):
        kernel = Kernel((((1,), 0),) * 4)
        self.same(stage(kernel, (0, (1, 10, 100)), 1), (0, (1, 111, 100)))
        self.same(stage(kernel, (0, (1, 10, 100)), 2), (0, (223, 111, 322)))
        self.same(stage(kernel, (-1, (1, 10, 100)), 1), (-1, (21, 10, 120)))
        self.same(stage(kernel, (-1, (1, 10, 100)), 2), (-1, (21, 151, 120)))
        self.same(stage(kernel, (5, (1, 10, 100)), 3), (5, (323, 151, 422)))

    def test_second_weight_reaches_farther(self):
        kernel = Kernel((((1, 10), 0),))
        samples = (1, 0, 2, 0, 4, 0, 8, 0)
        self.same(stage(kernel, (0, samples), 1), (0, (1, 3 + 10 * 6, 2, 6 + 10 * 9, 4, 12 + 10 * 10, 8, 16 + 10 * 8)))

    def test_mirrored_several_times(self):
        kernel = Kernel((((1, 10), 0), ((1, 10), 0)))
        self.same(stage(kernel, (0, (3, 5)), 1), (0, (3, 5 + 22 * 3)))
        self.same(stage(kernel, (1, (3, 5)), 1), (1, (3 + 22 * 5, 5)))
        self.same(stage(kernel, (0, (3, 5, 7)), 1), (0, (3, 5 + 11 * 10, 7)))
        self.same(stage(kernel, (0, (3, 5, 7)), 2), (0, (3 + 22 * 115, 115, 7 + 22 * 115)))
        self.same(stage(kernel, (-1, (3, 5, 7)), 1), (-1, (3 + 22 * 5, 5, 7 + 22 * 5)))
        self.same(stage(kernel, (0, (1, 0, 2, 0)), 1), (0, (1, 3 + 10 * 4, 2, 4 + 10 * 2)))

    def test_fewer_than_two_samples_stay(self):
        for steps in KERNELS:
            for start in STARTS:
                for samples in ((), (7,), (-10 ** 50,)):
                    for count in range(len(steps) + 1):
                        self.same(stage(Kernel(steps), (start, samples), count), (start, samples))

    def test_against_the_reference(self):
        for steps, (start, samples) in whole_signals():
            for count in range(len(steps) + 1):
                expected = start, reference.after_steps(steps, start, samples, count)
                self.same(stage(Kernel(steps), (start, samples), count), expected)

    def test_samples_of_any_size(self):
        great = 10 ** 1000
        self.same(stage(Kernel((((1,), 1),)), (0, (great, 1, great + 1)), 1), (0, (great, great + 2, great + 1)))
        self.same(stage(Kernel((((-64,), 0),)), (0, (great, 1)), 1), (0, (great, 1 - 128 * great)))

    def test_wrong_arguments(self):
        wrong_kernels = faults(NotKernel, NOT_KERNELS)
        wrong_signals = faults(BadSignal, NOT_WHOLE_SIGNALS)
        self.check_order(stage, [short_kernel(), (0, (1, 2)), 2],
                         [wrong_kernels, wrong_signals, faults(BadStage, (*NOT_INTEGERS, -1, 3, 4))])
        for steps in KERNELS:
            self.fails(BadStage, stage, Kernel(steps), (0, (1, 2)), len(steps) + 1)
        self.fails(BadStage, stage, short_kernel(), (0, ()), 3)


class AnalyzeTest(PressTest):
    def test_written_out(self):
        self.same(analyze(short_kernel(), (0, (4, 9, 6, 3))), ((0, (6, 6)), (0, (4, -3))))
        self.same(analyze(long_kernel(), (0, (4, 9, 6, 3))), ((0, (6, 6)), (0, (4, -3))))
        self.same(analyze(long_kernel(), (1, (40, 9, 6, 3, 50))), ((1, (17, 15)), (0, (30, 0, 48))))
        self.same(analyze(Kernel((((0,), 3),)), (-3, (1, 2, 3, 4))), ((-1, (2, 4)), (-2, (1, 3))))

    def test_bands_without_samples(self):
        kernel = long_kernel()
        self.same(analyze(kernel, (0, ())), ((0, ()), (0, ())))
        self.same(analyze(kernel, (3, ())), ((2, ()), (1, ())))
        self.same(analyze(kernel, (-3, ())), ((-1, ()), (-2, ())))
        self.same(analyze(kernel, (4, (9,))), ((2, (9,)), (2, ())))
        self.same(analyze(kernel, (5, (9,))), ((3, ()), (2, (9,))))
        self.same(analyze(kernel, (-1000, (-9,))), ((-500, (-9,)), (-500, ())))
        self.same(analyze(kernel, (-999, (-9,))), ((-499, ()), (-500, (-9,))))

    def test_against_the_reference(self):
        for steps, (start, samples) in whole_signals():
            self.same(analyze(Kernel(steps), (start, samples)), reference.analyzed(steps, start, samples))

    def test_short_signals_and_many_kernels(self):
        for seed in range(60):
            steps = some_steps(seed)
            for length in range(1, 10):
                for start in (-5, 6):
                    samples = some_samples(length, seed)
                    self.same(analyze(Kernel(steps), (start, samples)), reference.analyzed(steps, start, samples))

    def test_wrong_arguments(self):
        self.check_order(analyze, [short_kernel(), (0, (1, 2))],
                         [faults(NotKernel, NOT_KERNELS), faults(BadSignal, NOT_WHOLE_SIGNALS)])


class SynthesizeTest(PressTest):
    def test_written_out(self):
        self.same(synthesize(short_kernel(), (0, (6, 6)), (0, (4, -3))), (0, (4, 9, 6, 3)))
        self.same(synthesize(long_kernel(), (1, (17, 15)), (0, (30, 0, 48))), (1, (40, 9, 6, 3, 50)))

    def test_undoes_analysis(self):
        for steps, signal in whole_signals():
            low, high = analyze(Kernel(steps), signal)
            self.same(synthesize(Kernel(steps), low, high), signal)

    def test_is_undone_by_analysis(self):
        for steps, (start, samples) in whole_signals():
            low, high = reference.bands(start, samples)
            signal = synthesize(Kernel(steps), low, high)
            self.same(signal, (start, reference.before_steps(steps, start, samples)))
            self.same(analyze(Kernel(steps), signal), (low, high))

    def test_bands_without_samples(self):
        kernel = short_kernel()
        self.same(synthesize(kernel, (0, ()), (0, ())), (0, ()))
        self.same(synthesize(kernel, (2, ()), (1, ())), (3, ()))
        self.same(synthesize(kernel, (2, (9,)), (2, ())), (4, (9,)))
        self.same(synthesize(kernel, (3, ()), (2, (9,))), (5, (9,)))

    def test_only_bands_of_a_signal(self):
        kernel = long_kernel()
        possible = {}
        for start in range(-12, 13):
            for length in range(0, 9):
                low, high = reference.bands(start, (0,) * length)
                possible[low, high] = (start, (0,) * length)
        for low_start in range(-3, 4):
            for high_start in range(-3, 4):
                for low_length in range(4):
                    for high_length in range(4):
                        low, high = (low_start, (0,) * low_length), (high_start, (0,) * high_length)
                        if (low, high) in possible:
                            self.same(synthesize(kernel, low, high), possible[low, high])
                        else:
                            self.fails(BadBands, synthesize, kernel, low, high)

    def test_at_most_64_samples(self):
        kernel = short_kernel()
        self.assertEqual(len(synthesize(kernel, (0, (1,) * 32), (0, (1,) * 32))[1]), 64)
        self.fails(BadBands, synthesize, kernel, (0, (1,) * 33), (0, (1,) * 32))
        self.fails(BadBands, synthesize, kernel, (1, (1,) * 32), (0, (1,) * 33))
        self.fails(BadBands, synthesize, kernel, (0, (1,) * 33), (0, (1,) * 33))
        self.fails(BadBands, synthesize, kernel, (0, (1,) * 64), (0, (1,) * 64))

    def test_starts_within_the_limits(self):
        kernel = short_kernel()
        for samples in ((), (1, 2)):
            half = samples[:1]
            self.assertEqual(synthesize(kernel, (-500, half), (-500, half))[0], -1000)
            self.assertEqual(synthesize(kernel, (450, half), (450, half))[0], 900)
            self.fails(BadBands, synthesize, kernel, (-500, half), (-501, half))
            self.fails(BadBands, synthesize, kernel, (451, half), (450, half))
            self.fails(BadBands, synthesize, kernel, (900, half), (900, half))
            self.fails(BadBands, synthesize, kernel, (-1000, half), (-1000, half))

    def test_wrong_arguments(self):
        wrong_bands = faults(BadBands, (*NOT_WHOLE_SIGNALS, (3, (1,)), (0, (1, 2, 3))))
        self.check_order(synthesize, [short_kernel(), (0, (1,)), (0, (1,))],
                         [faults(NotKernel, NOT_KERNELS), wrong_bands, wrong_bands])


if __name__ == "__main__":
    unittest.main()
