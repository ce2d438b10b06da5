"""Promise 3: award, and with it what is at hand, oldest first."""

import unittest

from milehouse.house import answer_call
from tests.helper import (
    MOST_ID, ask, award, cancel, check_ends, check_refusals, earn, held, house_after, join, kept, last, life, lots,
    pool, unpool,
)

# Member 1 has lots for the days 10 and 30, member 2 for 10 and 20, member 3 for 20 and 30.
FAMILY = [
    join(1), join(2), join(3),
    life(30), earn(1, 5), earn(3, 6), life(10), earn(1, 1), earn(2, 2), life(20), earn(2, 3), earn(3, 4),
]


class Alone(unittest.TestCase):

    def test_part_of_a_lot(self):
        calls = [join(1), earn(1, 10), award(1, 7, 4)]
        self.assertEqual(last(*calls), [0, 1, 365, 4])
        self.assertEqual(lots(house_after(*calls), 1), [(365, 6)])

    def test_least_last_day_first_whatever_came_first(self):
        self.assertEqual(last(*FAMILY, award(1, 7, 2)), [0, 1, 10, 1, 1, 30, 1])

    def test_lot_from_which_all_is_taken_is_no_lot_any_more(self):
        calls = [*FAMILY, award(1, 7, 1)]
        self.assertEqual(last(*calls), [0, 1, 10, 1])
        self.assertEqual(lots(house_after(*calls), 1), [(30, 5)])
        self.assertEqual(last(*calls, award(1, 8, 1)), [0, 1, 30, 1])

    def test_all_that_is_there(self):
        calls = [*FAMILY, award(1, 7, 6)]
        self.assertEqual(last(*calls), [0, 1, 10, 1, 1, 30, 5])
        self.assertEqual(lots(house_after(*calls), 1), [])

    def test_without_a_pool_others_lots_are_left(self):
        before = house_after(*FAMILY)
        after = house_after(*FAMILY, award(1, 7, 6))
        self.assertEqual((lots(after, 2), lots(after, 3)), (lots(before, 2), lots(before, 3)))


class InAPool(unittest.TestCase):

    def test_by_last_days_and_of_one_by_the_order_of_the_pool(self):
        whole = [0, 2, 10, 2, 1, 10, 1, 3, 20, 4, 2, 20, 3, 3, 30, 6, 1, 30, 5]
        for asker in (1, 2, 3):
            with self.subTest(asker=asker):
                self.assertEqual(last(*FAMILY, pool(3, 2, 1), award(asker, 7, 21)), whole)

    def test_another_order_of_the_pool(self):
        self.assertEqual(last(*FAMILY, pool(1, 3, 2), award(2, 7, 9)), [0, 1, 10, 1, 2, 10, 2, 3, 20, 4, 2, 20, 2])

    def test_ends_within_a_lot(self):
        calls = [*FAMILY, pool(1, 2), award(1, 7, 4)]
        self.assertEqual(last(*calls), [0, 1, 10, 1, 2, 10, 2, 2, 20, 1])
        house = house_after(*calls)
        self.assertEqual((lots(house, 1), lots(house, 2)), ([(30, 5)], [(20, 2)]))

    def test_who_asks_need_not_have_miles(self):
        self.assertEqual(last(*FAMILY, join(4), pool(4, 1), award(4, 7, 1)), [0, 1, 10, 1])

    def test_other_pools_are_not_at_hand(self):
        check_refusals(self, [*FAMILY, join(4), pool(4, 1), pool(2, 3)], [(award(4, 7, 7), -7)])

    def test_after_the_pool_only_the_own_lots(self):
        check_refusals(self, [*FAMILY, pool(1, 2), unpool(2)], [(award(1, 7, 7), -7)])


class Kept(unittest.TestCase):

    def test_award_has_its_booking_who_asked_and_its_draws(self):
        house = house_after(*FAMILY, pool(1, 2), award(2, 7, 2), award(1, 5, 1))
        self.assertEqual(kept(house)["awards"], [(7, 2, [(1, 10, 1), (2, 10, 1)]), (5, 1, [(2, 10, 1)])])

    def test_cost_is_added_to_spent(self):
        house = house_after(*FAMILY, award(1, 7, 2), award(2, 8, 5))
        self.assertEqual((house.earned, house.spent, house.returned, house.run_out), (21, 7, 0, 0))
        self.assertEqual(held(house), 14)

    def test_a_booking_used_again_stands_behind_the_others(self):
        house = house_after(*FAMILY, award(1, 7, 1), award(1, 8, 1), cancel(7), award(1, 7, 2))
        self.assertEqual(list(house.awards), [8, 7])


class Refused(unittest.TestCase):

    def test_no_member(self):
        check_refusals(self, FAMILY, [(award(4, 7, 1), -3), (award(4, 7, 100), -3)])

    def test_booking_that_is_there(self):
        check_refusals(self, [*FAMILY, award(1, 7, 1)], [(award(1, 7, 1), -4), (award(2, 7, 1), -4)])

    def test_too_few_miles(self):
        check_refusals(self, FAMILY, [(award(1, 7, 7), -7), (award(1, 7, MOST_ID), -7)])
        check_refusals(self, [*FAMILY, pool(3, 2, 1)], [(award(1, 7, 22), -7)])
        check_refusals(self, [join(1)], [(award(1, 7, 1), -7)])

    def test_hundred_awards(self):
        calls = [join(1), join(2), earn(1, 200)] + [award(1, booking, 1) for booking in range(1, 101)]
        self.assertEqual(ask(*calls)[-1], [0, 1, 365, 1])
        refused = [(award(1, 101, 1), -6), (award(1, 101, 101), -7), (award(1, 100, 101), -4), (award(3, 100, 1), -3)]
        check_refusals(self, calls, refused)
        self.assertEqual(last(*calls, cancel(50), award(1, 101, 1)), [0, 1, 365, 1])

    def test_no_member_before_booking_before_miles(self):
        calls = [*FAMILY, award(1, 7, 1)]
        check_refusals(self, calls, [(award(4, 7, 1), -3), (award(1, 7, 100), -4)])

    def test_ends_of_ranges(self):
        check_ends(self, FAMILY, lambda n: award(n, 7, 1), 1, MOST_ID)
        check_ends(self, FAMILY, lambda n: award(1, n, 1), 1, MOST_ID)
        check_ends(self, FAMILY, lambda n: award(1, 7, n), 1, MOST_ID)

    def test_greatest_booking(self):
        self.assertEqual(last(*FAMILY, award(1, MOST_ID, 1)), [0, 1, 10, 1])

    def test_a_refused_booking_is_not_kept(self):
        house = house_after(*FAMILY)
        self.assertEqual(answer_call(house, award(1, 7, 7)), [-7])
        self.assertEqual(answer_call(house, award(1, 7, 1)), [0, 1, 10, 1])

    def test_range_before_no_member(self):
        check_refusals(self, FAMILY, [(award(4, 0, 1), -2), (award(4, 7, 0), -2)])


if __name__ == "__main__":
    unittest.main()
