"""Promise 2: earn, and with it the points of the year and the tier."""

import unittest

from tests.helper import (
    LAST_OF_DAYS, MOST_ID, ask, award, check_ends, check_refusals, clock, earn, house_after, join, last, life, lots,
    rules, show_lots, tier,
)

TIERED = rules(365, [0, 50, 100, 300], [10, 20, 30])


class Credit(unittest.TestCase):

    def test_without_bonus(self):
        self.assertEqual(last(join(1), earn(1, 250)), [0, 250, 0])

    def test_bonus_is_of_the_tier_before_the_call(self):
        calls = [join(1), TIERED, earn(1, 100, 10), earn(1, 100, 10), earn(1, 100, 10), earn(1, 100, 10)]
        self.assertEqual(ask(*calls)[2:], [[0, 100, 1], [0, 150, 2], [0, 200, 3], [0, 400, 3]])

    def test_bonus_of_tier_zero(self):
        self.assertEqual(last(join(1), rules(9, [10, 0, 0, 0], [1, 2, 3]), earn(1, 100)), [0, 110, 0])

    def test_rounded_down(self):
        for miles, bonus, credited in ((1, 99, 1), (3, 50, 4), (199, 1, 200), (99, 1, 99), (1, 100, 2), (7, 33, 9)):
            with self.subTest(miles=miles, bonus=bonus):
                bonuses = [bonus, 0, 0, 0]
                self.assertEqual(last(join(1), rules(9, bonuses, [1, 2, 3]), earn(1, miles)), [0, credited, 0])

    def test_credited_miles_are_added_to_earned(self):
        house = house_after(join(1), join(2), rules(9, [50, 0, 0, 0], [1, 2, 3]), earn(1, 3), earn(2, 100))
        self.assertEqual((house.earned, house.spent, house.returned, house.run_out), (154, 0, 0, 0))

    def test_credited_miles_are_put_into_the_lots(self):
        house = house_after(join(1), join(2), rules(9, [50, 0, 0, 0], [1, 2, 3]), earn(1, 3))
        self.assertEqual((lots(house, 1), lots(house, 2)), ([(9, 4)], []))


class LastDay(unittest.TestCase):

    def test_life_at_first(self):
        self.assertEqual(last(join(1), earn(1, 5), award(1, 1, 5)), [0, 1, 365, 5])

    def test_today_plus_life(self):
        self.assertEqual(last(join(1), life(10), clock(100), earn(1, 5), show_lots(1)), [0, 110, 5])

    def test_lots_of_one_last_day_are_put_together(self):
        calls = [join(1), earn(1, 5), life(7), earn(1, 2), life(365), earn(1, 6)]
        self.assertEqual(lots(house_after(*calls), 1), [(7, 2), (365, 11)])
        self.assertEqual(last(*calls, award(1, 1, 13)), [0, 1, 7, 2, 1, 365, 11])

    def test_last_day_is_36524_at_most(self):
        for today, last_day in ((36513, 36523), (36514, 36524), (36515, 36524), (LAST_OF_DAYS, 36524)):
            with self.subTest(today=today):
                calls = [join(1), life(10), clock(today), earn(1, 5), show_lots(1)]
                self.assertEqual(last(*calls), [0, last_day, 5])

    def test_lots_of_several_days_that_end_on_36524_are_put_together(self):
        calls = [join(1), clock(36200), earn(1, 5), clock(36300), earn(1, 6), clock(LAST_OF_DAYS), earn(1, 7)]
        self.assertEqual(last(*calls, show_lots(1)), [0, 36524, 18])


class Tier(unittest.TestCase):

    def test_steps_that_are_not_above_the_points(self):
        for points, step in ((0, 0), (9, 0), (10, 1), (19, 1), (20, 2), (29, 2), (30, 3), (1000000, 3)):
            with self.subTest(points=points):
                self.assertEqual(last(join(1), TIERED, earn(1, 1, points)), [0, 1, step])

    def test_points_of_several_calls_count_together(self):
        self.assertEqual(last(join(1), TIERED, earn(1, 1, 4), earn(1, 1, 5), earn(1, 1, 1)), [0, 1, 1])

    def test_points_are_the_members_own(self):
        self.assertEqual(last(join(1), join(2), TIERED, earn(1, 1, 30), earn(2, 1)), [0, 1, 0])

    def test_pairs_stand_in_the_order_in_which_they_came(self):
        house = house_after(join(1), earn(1, 1, 8), earn(1, 1, 0), earn(1, 1, 2))
        self.assertEqual(house.members[1].points, [(0, 8), (0, 2)])

    def test_pair_has_the_day_it_came(self):
        house = house_after(join(1), earn(1, 1, 8), clock(12), earn(1, 1, 3))
        self.assertEqual(house.members[1].points, [(0, 8), (12, 3)])

    def test_points_count_while_their_day_plus_365_is_after_today(self):
        calls = [join(1), TIERED, clock(100), earn(1, 1, 25)]
        for today, points, step in ((464, 25, 2), (465, 0, 0), (466, 0, 0)):
            with self.subTest(today=today):
                self.assertEqual(last(*calls, clock(today), tier(1)), [0, step, points])

    def test_bonus_and_tier_fall_with_the_points(self):
        calls = [join(1), TIERED, earn(1, 1, 12), clock(100), earn(1, 1, 9)]
        self.assertEqual(last(*calls, clock(364), earn(1, 100)), [0, 200, 2])
        self.assertEqual(last(*calls, clock(365), earn(1, 100)), [0, 100, 0])
        self.assertEqual(last(*calls, clock(365), earn(1, 100, 1)), [0, 100, 1])


class Refused(unittest.TestCase):

    def test_no_member(self):
        check_refusals(self, [join(1)], [(earn(2, 5, 5), -3), (earn(MOST_ID, 5), -3)])

    def test_sixty_pairs_of_points(self):
        full = [join(1)] + [earn(1, 1, 1)] * 60
        self.assertEqual(ask(*full)[-1], [0, 1, 3])
        check_refusals(self, full, [(earn(1, 1, 1), -6), (earn(1, 1000000, 1000000), -6)])

    def test_without_points_sixty_pairs_are_no_matter(self):
        self.assertEqual(last(join(1), *[earn(1, 1, 1)] * 60, earn(1, 8, 0)), [0, 8, 3])

    def test_calls_without_points_make_no_pairs(self):
        self.assertEqual(last(join(1), *[earn(1, 1, 0)] * 61, earn(1, 1, 1)), [0, 1, 1])

    def test_sixty_pairs_are_counted_for_each_member(self):
        self.assertEqual(last(join(1), join(2), *[earn(1, 1, 1)] * 60, earn(2, 1, 1)), [0, 1, 1])

    def test_ends_of_ranges(self):
        check_ends(self, [join(1)], lambda n: earn(n, 5, 5), 1, MOST_ID)
        check_ends(self, [join(1)], lambda n: earn(1, n, 5), 1, 1000000)
        check_ends(self, [join(1)], lambda n: earn(1, 5, n), 0, 1000000)

    def test_greatest_of_all(self):
        calls = [join(MOST_ID), rules(1500, [300, 0, 0, 0], [1, 2, 1000000]), earn(MOST_ID, 1000000, 1000000)]
        self.assertEqual(last(*calls), [0, 4000000, 3])
        self.assertEqual(last(*calls, award(MOST_ID, 1, 4000000)), [0, MOST_ID, 1500, 4000000])

    def test_range_before_no_member(self):
        check_refusals(self, [join(1)], [(earn(2, 0, 5), -2), (earn(2, 5, -1), -2)])


if __name__ == "__main__":
    unittest.main()
