"""Promise 7: give."""

import unittest

from tests.helper import (
    MOST_ID, award, check_ends, check_refusals, earn, give, held, house_after, join, last, life, lots, pool,
)

# Member 1 has lots for the days 10, 20 and 30; member 2 for 20.
PAIR = [join(1), join(2), life(30), earn(1, 5), life(10), earn(1, 1), life(20), earn(1, 3), earn(2, 8)]


class Give(unittest.TestCase):

    def test_oldest_first_with_the_same_last_days(self):
        calls = [*PAIR, give(1, 2, 6)]
        self.assertEqual(last(*calls), [0, 10, 1, 20, 3, 30, 2])
        house = house_after(*calls)
        self.assertEqual((lots(house, 1), lots(house, 2)), ([(30, 3)], [(10, 1), (20, 11), (30, 2)]))

    def test_within_the_first_lot(self):
        calls = [join(1), join(2), earn(1, 5), give(1, 2, 2)]
        self.assertEqual(last(*calls), [0, 365, 2])
        house = house_after(*calls)
        self.assertEqual((lots(house, 1), lots(house, 2)), ([(365, 3)], [(365, 2)]))

    def test_a_whole_lot(self):
        calls = [*PAIR, give(1, 2, 1)]
        self.assertEqual(last(*calls), [0, 10, 1])
        self.assertEqual(lots(house_after(*calls), 1), [(20, 3), (30, 5)])
        self.assertEqual(last(*calls, give(1, 2, 1)), [0, 20, 1])

    def test_all_that_is_there(self):
        calls = [*PAIR, give(1, 2, 9)]
        self.assertEqual(last(*calls), [0, 10, 1, 20, 3, 30, 5])
        self.assertEqual(lots(house_after(*calls), 1), [])

    def test_there_and_back(self):
        calls = [*PAIR, give(1, 2, 4), give(2, 1, 4)]
        self.assertEqual(last(*calls), [0, 10, 1, 20, 3])
        self.assertEqual(lots(house_after(*calls), 1), [(10, 1), (20, 3), (30, 5)])

    def test_own_lots_alone_also_in_a_pool(self):
        calls = [*PAIR, join(3), pool(2, 1)]
        self.assertEqual(last(*calls, give(1, 3, 4)), [0, 10, 1, 20, 3])
        check_refusals(self, calls, [(give(1, 3, 10), -7), (give(2, 1, 9), -7)])

    def test_given_miles_may_be_spent(self):
        self.assertEqual(last(*PAIR, give(1, 2, 2), award(2, 7, 10)), [0, 2, 10, 1, 2, 20, 9])

    def test_no_sum_is_changed(self):
        house = house_after(*PAIR, give(1, 2, 6))
        self.assertEqual((house.earned, house.spent, house.returned, house.run_out, held(house)), (17, 0, 0, 0, 17))


class Refused(unittest.TestCase):

    def test_no_member(self):
        check_refusals(self, PAIR, [(give(3, 1, 1), -3), (give(1, 3, 1), -3), (give(3, 4, 1), -3)])

    def test_both_are_one_member(self):
        check_refusals(self, PAIR, [(give(1, 1, 1), -5), (give(2, 2, 8), -5)])

    def test_too_few_miles(self):
        check_refusals(self, PAIR, [(give(1, 2, 10), -7), (give(2, 1, 9), -7), (give(1, 2, MOST_ID), -7)])
        check_refusals(self, [join(1), join(2)], [(give(1, 2, 1), -7)])

    def test_no_member_before_one_member_before_miles(self):
        check_refusals(self, PAIR, [(give(3, 3, 1), -3), (give(1, 3, 100), -3), (give(1, 1, 100), -5)])

    def test_ends_of_ranges(self):
        check_ends(self, PAIR, lambda n: give(n, 2, 1), 1, MOST_ID)
        check_ends(self, PAIR, lambda n: give(1, n, 1), 1, MOST_ID)
        check_ends(self, PAIR, lambda n: give(1, 2, n), 1, MOST_ID)

    def test_range_before_no_member(self):
        check_refusals(self, PAIR, [(give(3, 3, 0), -2), (give(3, 0, 1), -2)])


if __name__ == "__main__":
    unittest.main()
