"""Promise 8: clock."""

import unittest

from tests.helper import (
    LAST_OF_DAYS, ask, award, awards, check_ends, check_refusals, clock, earn, give, hand, house_after, join, kept,
    last, life, pool, rules, show_lots, tier, totals,
)

# Joined in the order 9, 2, 5: 9 has lots for the days 10 and 20, 2 for 20, 5 for 30.
THREE = [
    join(9), join(2), join(5),
    life(20), earn(2, 7), earn(9, 4), life(10), earn(9, 1), life(30), earn(5, 6),
]


class Clock(unittest.TestCase):

    def test_today_is_this_day(self):
        self.assertEqual(house_after(clock(12)).today, 12)
        self.assertEqual(last(join(1), clock(12), earn(1, 5), show_lots(1)), [0, 377, 5])

    def test_house_without_members(self):
        self.assertEqual(ask(clock(0), clock(7), clock(LAST_OF_DAYS)), [[0, 0], [0, 0], [0, 0]])

    def test_the_same_day(self):
        self.assertEqual(ask(*THREE, clock(0), clock(15), clock(15))[-3:], [[0, 0], [0, 1, 9, 1], [0, 0]])
        house = house_after(*THREE, clock(15))
        self.assertEqual(kept(house_after(*THREE, clock(15), clock(15))), kept(house))

    def test_last_day_today_stays_and_the_day_before_goes(self):
        calls = [join(1), life(10), earn(1, 5)]
        self.assertEqual(ask(*calls, clock(10), show_lots(1), hand(1))[-3:], [[0, 0], [0, 10, 5], [0, 5]])
        self.assertEqual(ask(*calls, clock(11), show_lots(1), hand(1))[-3:], [[0, 5, 1, 5], [0], [0, 0]])

    def test_on_the_last_day_miles_may_still_be_spent(self):
        calls = [join(1), life(10), earn(1, 5)]
        self.assertEqual(last(*calls, clock(10), award(1, 7, 5)), [0, 1, 10, 5])
        self.assertEqual(last(*calls, clock(11), award(1, 7, 5)), [-7])

    def test_lots_of_the_last_of_days_never_run_out(self):
        calls = [join(1), clock(36500), earn(1, 5), clock(LAST_OF_DAYS)]
        self.assertEqual(ask(*calls, show_lots(1))[-2:], [[0, 0], [0, 36524, 5]])

    def test_members_in_the_order_of_joining(self):
        self.assertEqual(last(*THREE, clock(31)), [0, 18, 9, 5, 2, 7, 5, 6])

    def test_only_members_of_whom_some_ran_out(self):
        for day, answer in (
            (10, [0, 0]), (11, [0, 1, 9, 1]), (20, [0, 1, 9, 1]), (21, [0, 12, 9, 5, 2, 7]), (30, [0, 12, 9, 5, 2, 7]),
        ):
            with self.subTest(day=day):
                self.assertEqual(last(*THREE, clock(day)), answer)

    def test_step_by_step(self):
        told = ask(*THREE, clock(11), clock(21), clock(31), clock(41))[-4:]
        self.assertEqual(told, [[0, 1, 9, 1], [0, 11, 9, 4, 2, 7], [0, 6, 5, 6], [0, 0]])

    def test_other_lots_stay(self):
        told = ask(*THREE, clock(11), show_lots(9), show_lots(2), show_lots(5))[-3:]
        self.assertEqual(told, [[0, 20, 4], [0, 20, 7], [0, 30, 6]])

    def test_in_a_pool_each_loses_the_own_lots(self):
        calls = [*THREE, pool(5, 2, 9), clock(21)]
        self.assertEqual(ask(*calls, hand(9), hand(5))[-3:], [[0, 12, 9, 5, 2, 7], [0, 6], [0, 6]])

    def test_given_miles_run_out_at_whom_they_are(self):
        self.assertEqual(last(*THREE, give(9, 5, 3), clock(21)), [0, 12, 9, 2, 2, 7, 5, 3])

    def test_added_to_run_out(self):
        told = ask(*THREE, clock(11), totals(), clock(31), totals())
        self.assertEqual((told[-3], told[-1]), ([0, 18, 0, 0, 1, 17], [0, 18, 0, 0, 18, 0]))

    def test_spent_miles_do_not_run_out(self):
        calls = [*THREE, award(9, 7, 3), clock(31)]
        self.assertEqual(ask(*calls, totals(), awards())[-3:],
                         [[0, 15, 9, 2, 2, 7, 5, 6], [0, 18, 3, 0, 15, 0], [0, 7, 9, 3]])

    def test_later_rules_leave_last_days(self):
        self.assertEqual(last(*THREE, life(1), clock(10)), [0, 0])


class Points(unittest.TestCase):

    def test_pair_goes_when_its_day_plus_365_is_not_after_today(self):
        calls = [join(1), clock(3), earn(1, 1, 8), clock(4), earn(1, 1, 2)]
        for day, points in ((367, [(3, 8), (4, 2)]), (368, [(4, 2)]), (369, []), (5000, [])):
            with self.subTest(day=day):
                self.assertEqual(house_after(*calls, clock(day)).members[1].points, points)

    def test_for_each_member(self):
        calls = [join(1), join(2), earn(1, 1, 8), earn(2, 1, 9), clock(365)]
        self.assertEqual(ask(*calls, tier(1), tier(2))[-2:], [[0, 0, 0], [0, 0, 0]])

    def test_also_of_a_member_of_whom_no_miles_run_out(self):
        calls = [join(1), life(1500), earn(1, 1, 8), clock(365)]
        self.assertEqual(ask(*calls, tier(1))[-2:], [[0, 0], [0, 0, 0]])

    def test_pairs_that_went_leave_room(self):
        full = [join(1)] + [earn(1, 1, 1)] * 30 + [clock(1)] + [earn(1, 1, 1)] * 30
        self.assertEqual(last(*full, clock(364), earn(1, 1, 1)), [-6])
        self.assertEqual(ask(*full, clock(365), *[earn(1, 1, 1)] * 31)[-2:], [[0, 1, 3], [-6]])

    def test_tier_falls(self):
        calls = [join(1), rules(9, [0, 0, 0, 0], [5, 10, 15]), earn(1, 1, 10), clock(200), earn(1, 1, 5)]
        self.assertEqual(ask(*calls, tier(1), clock(364), tier(1), clock(365), tier(1), clock(565), tier(1))[-7::2],
                         [[0, 3, 15], [0, 3, 15], [0, 1, 5], [0, 0, 0]])


class Refused(unittest.TestCase):

    def test_before_today(self):
        check_refusals(self, [*THREE, clock(15)], [(clock(14), -10), (clock(0), -10)])
        check_refusals(self, [clock(LAST_OF_DAYS)], [(clock(LAST_OF_DAYS - 1), -10), (clock(0), -10)])

    def test_ends_of_range(self):
        check_ends(self, THREE, clock, 0, LAST_OF_DAYS)
        self.assertEqual(last(*THREE, clock(LAST_OF_DAYS)), [0, 18, 9, 5, 2, 7, 5, 6])

    def test_range_before_today(self):
        check_refusals(self, [clock(15)], [(clock(-1), -2), (clock(LAST_OF_DAYS + 1), -2)])


if __name__ == "__main__":
    unittest.main()
