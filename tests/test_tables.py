"""Point 15: tables, and the table of the codec."""

import unittest

from bandpress.errors import BadTable
from bandpress.kernels import short_kernel
from bandpress.tables import Table, own_table
from tests.coding import OWN_STATES, STATES
from tests.helpers import NOT_BITS, NOT_INTEGERS, PressTest

GOOD = (1, 0, 0, 0)


class TableTest(PressTest):
    def test_keeps_its_states(self):
        for states in STATES:
            self.same(Table(states).states, states)

    def test_limits(self):
        for states in (((1, 0, 0, 0),), ((32, 0, 0, 1),), ((5, 31, 31, 0),) * 32, (GOOD, (32, 1, 1, 1))):
            self.same(Table(states).states, states)

    def test_equal_if_the_states_are(self):
        for states in STATES:
            for others in STATES:
                self.assertIs(Table(states) == Table(others), states == others)
                self.assertIs(Table(states) != Table(others), states != others)
        for other in (None, OWN_STATES, 0, "own", short_kernel()):
            self.assertFalse(own_table() == other)
            self.assertTrue(own_table() != other)

    def test_not_a_tuple_of_states(self):
        for value in (None, True, 5, "", "1000", [], [GOOD], {}, {0: GOOD}, (), (GOOD,) * 33, (None,) * 33):
            self.fails(BadTable, Table, value, index=None)

    def test_first_item_that_is_no_state(self):
        wrong = [None, True, 5, "", "1000", (), (1, 0, 0), (1, 0, 0, 0, 0), [1, 0, 0, 0], {}, ((1, 0, 0, 0),),
                 *((share, 0, 0, 0) for share in (*NOT_INTEGERS, 0, 33, -1)),
                 *((1, after, 0, 0) for after in (*NOT_INTEGERS, -1, 3, 10 ** 30)),
                 *((1, 0, after, 0) for after in (*NOT_INTEGERS, -1, 3, 10 ** 30)),
                 *((1, 0, 0, flips) for flips in NOT_BITS)]
        for state in wrong:
            self.fails(BadTable, Table, (state, GOOD, GOOD), index=0)
            self.fails(BadTable, Table, (GOOD, (1, 2, 2, 1), state), index=2)
            self.fails(BadTable, Table, (GOOD, state, state), index=1)
        self.fails(BadTable, Table, ((1, 0, 0, 0), (1, 32, 0, 0), *((GOOD,) * 30)), index=1)
        self.fails(BadTable, Table, ((1, 1, 0, 0),), index=0)


class OwnTableTest(PressTest):
    def test_written_out(self):
        states = own_table().states
        self.same(states, OWN_STATES)
        self.same(len(states), 18)
        self.same(states[:4], ((32, 1, 0, 1), (28, 2, 0, 0), (24, 3, 0, 0), (21, 4, 1, 0)))
        self.same(states[-2:], ((2, 17, 14, 0), (1, 17, 15, 0)))

    def test_equal_each_time(self):
        self.assertTrue(own_table() == own_table())
        self.assertTrue(own_table() == Table(OWN_STATES))


if __name__ == "__main__":
    unittest.main()
