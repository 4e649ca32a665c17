"""Point 3: spans."""

import unittest

from bandpress.errors import BadLevels, BadSpan
from bandpress.spans import high_span, low_span, low_span_after
from tests.helpers import NOT_INTEGERS, NOT_SPANS, PressTest, faults

NOT_TEN_LEVELS = (*NOT_INTEGERS, -1, 11)


class SpanTest(PressTest):
    def test_ordinary_spans(self):
        self.same(low_span((0, 4)), (0, 2))
        self.same(high_span((0, 4)), (0, 2))
        self.same(low_span((1, 4)), (1, 2))
        self.same(high_span((1, 4)), (0, 2))
        self.same(low_span((0, 5)), (0, 3))
        self.same(high_span((0, 5)), (0, 2))
        self.same(low_span((-3, 2)), (-1, 1))
        self.same(high_span((-3, 2)), (-2, 1))

    def test_they_hold_the_indexes_of_even_and_odd_positions(self):
        for start in range(-9, 10):
            for stop in range(start, 12):
                even = [i // 2 for i in range(start, stop) if i % 2 == 0]
                odd = [(i - 1) // 2 for i in range(start, stop) if i % 2 == 1]
                self.assertEqual(list(range(*low_span((start, stop)))), even)
                self.assertEqual(list(range(*high_span((start, stop)))), odd)

    def test_spans_without_positions(self):
        self.same(low_span((3, 3)), (2, 2))
        self.same(high_span((3, 3)), (1, 1))
        self.same(low_span((-3, -3)), (-1, -1))
        self.same(high_span((-3, -3)), (-2, -2))
        self.same(low_span((0, 0)), (0, 0))
        self.same(high_span((4, 4)), (2, 2))

    def test_ends_of_the_range(self):
        self.same(low_span((-1000, 1000)), (-500, 500))
        self.same(high_span((-1000, 1000)), (-500, 500))
        self.same(low_span((-1000, -1000)), (-500, -500))
        self.same(high_span((1000, 1000)), (500, 500))
        self.same(low_span((-999, 999)), (-499, 500))
        self.same(high_span((-999, 999)), (-500, 499))

    def test_wrong_spans(self):
        for call in (low_span, high_span):
            self.check_order(call, [(0, 4)], [faults(BadSpan, NOT_SPANS)])

    def test_after_levels(self):
        self.same(low_span_after((3, 17), 0), (3, 17))
        self.same(low_span_after((3, 17), 1), (2, 9))
        self.same(low_span_after((3, 17), 2), (1, 5))
        self.same(low_span_after((3, 17), 3), (1, 3))
        self.same(low_span_after((-1000, 1000), 10), (0, 1))
        self.same(low_span_after((-1000, 1000), 9), (-1, 2))
        self.same(low_span_after((5, 5), 10), (1, 1))

    def test_after_levels_is_low_span_again_and_again(self):
        for span in ((-1000, 1000), (-999, 998), (-7, 30), (0, 0), (513, 513), (12, 901)):
            expected = span
            for levels in range(11):
                self.same(low_span_after(span, levels), expected)
                expected = low_span(expected)

    def test_wrong_spans_and_levels(self):
        self.check_order(low_span_after, [(0, 4), 2], [faults(BadSpan, NOT_SPANS), faults(BadLevels, NOT_TEN_LEVELS)])


if __name__ == "__main__":
    unittest.main()
