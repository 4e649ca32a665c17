"""Point 31: codes of numbers."""

import unittest

from bandpress.errors import BadBits, BadNumber, BadPosition
from bandpress.numbercodes import number_bits, read_number
from tests.helpers import NOT_BITS, NOT_INTEGERS, PressTest, faults

NUMBERS = (*range(70), 126, 127, 128, 254, 255, 256, 1000, 2 ** 32 - 1, 2 ** 32, 10 ** 30, 2 ** 999 - 1, 2 ** 999)
WRONG_BITS = [
    *((value, BadBits, {"index": None}) for value in
      (None, True, 0, "", "01", [], [0, 1], {}, {0: 1}, (0,) * 4001, (None,) * 4001)),
    *(((value,), BadBits, {"index": 0}) for value in NOT_BITS),
    *(((0, 1, value, None), BadBits, {"index": 2}) for value in NOT_BITS),
    ((0,) * 3999 + (None,), BadBits, {"index": 3999}),
]
WRONG_POSITIONS = faults(BadPosition, (*NOT_INTEGERS, -1, 6, 10 ** 30))


class NumberBitsTest(PressTest):
    def test_written_out(self):
        self.same([number_bits(number) for number in range(8)],
                  [(0,), (1, 0, 0), (1, 0, 1), (1, 1, 0, 0, 0), (1, 1, 0, 0, 1), (1, 1, 0, 1, 0), (1, 1, 0, 1, 1),
                   (1, 1, 1, 0, 0, 0, 0)])

    def test_against_the_digits(self):
        for number in NUMBERS:
            digits = f"{number + 1:b}"
            bits = "1" * (len(digits) - 1) + "0" + digits[1:]
            self.same(number_bits(number), tuple(int(bit) for bit in bits))

    def test_greater_than_any_tuple_that_is_read(self):
        self.same(number_bits(2 ** 5000 - 1), (1,) * 5000 + (0,) * 5001)

    def test_wrong_arguments(self):
        self.check_order(number_bits, [5], [faults(BadNumber, (*NOT_INTEGERS, -1, -2, -10 ** 30))])


class ReadNumberTest(PressTest):
    def test_written_out(self):
        self.same(read_number((0,), 0), (0, 1))
        self.same(read_number((1, 1, 0, 1, 0), 0), (5, 5))
        self.same(read_number((1, 1, 0, 1, 0), 1), (2, 4))
        self.same(read_number((1, 1, 0, 1, 0), 2), (0, 3))
        self.same(read_number((1, 1, 0, 1, 0), 4), (0, 5))

    def test_codes_one_behind_another(self):
        bits = tuple(bit for number in NUMBERS[:-2] for bit in number_bits(number))
        position = 0
        for number in NUMBERS[:-2]:
            found, position = read_number(bits, position)
            self.same(found, number)
        self.same(position, len(bits))

    def test_great_numbers(self):
        for number in NUMBERS:
            bits = (1, 1, *number_bits(number))
            self.same(read_number((*bits, 0, 1), 2), (number, len(bits)))
        self.same(read_number((*number_bits(2 ** 1999), 1), 0), (2 ** 1999, 3999))

    def test_ends_too_early(self):
        for number in NUMBERS:
            bits = number_bits(number)
            for count in range(0, len(bits), 1 + len(bits) // 20):
                self.fails(BadBits, read_number, bits[:count], 0, index=count)
                self.fails(BadBits, read_number, (0, *bits[:count]), 1, index=count + 1)
        self.fails(BadBits, read_number, (1,) * 4000, 0, index=4000)
        self.fails(BadBits, read_number, (0,), 1, index=1)

    def test_wrong_arguments(self):
        self.check_order(read_number, [(1, 0, 1, 0, 0), 0], [WRONG_BITS, WRONG_POSITIONS])


if __name__ == "__main__":
    unittest.main()
