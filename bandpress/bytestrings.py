"""Byte strings: tuples of integers from 0 to 255. A byte string writes an integer in base 256."""

from bandpress.checks import first_wrong, is_tuple, is_within
from bandpress.errors import BadBytes

MOST_BYTES = 4000


def is_byte(value):
    """Whether a value is an integer from 0 to 255."""
    return is_within(value, 0, 255)


def is_byte_string(value):
    """Whether a value is a byte string."""
    return is_tuple(value, 0, MOST_BYTES) and first_wrong(value, is_byte) is None


def check_bytes(value):
    """Raises BadBytes for a value that is not a byte string."""
    if not is_tuple(value, 0, MOST_BYTES):
        raise BadBytes(None)
    wrong = first_wrong(value, is_byte)
    if wrong is not None:
        raise BadBytes(wrong)


def written_number(data):
    """The integer that a byte string writes, the first byte being the most significant."""
    number = 0
    for byte in data:
        number = (number << 8) + byte
    return number


def as_bytes(number, count):
    """The byte string of so many bytes that writes an integer."""
    return tuple([(number >> (8 * place)) & 255 for place in reversed(range(count))])


def bits_of(data):
    """The tuple of the bits of a byte string; the first bit of a byte has the weight 128."""
    return tuple([(byte >> place) & 1 for byte in data for place in reversed(range(8))])


def bytes_of(bits):
    """The byte string that bits make, with zeros to fill up the last byte."""
    count = (len(bits) + 7) // 8
    number = 0
    for bit in bits:
        number = 2 * number + bit
    return as_bytes(number << (8 * count - len(bits)), count)
