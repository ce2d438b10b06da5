"""Promises 9 to 12, 14 and 15: lots, tier, hand, forecast, totals and awards."""

import unittest

from tests.helper import (
    LAST_OF_DAYS, MOST_ID, ask, award, awards, cancel, check_changes_nothing, check_ends, check_refusals, clock, earn,
    forecast, give, hand, join, last, life, pool, rules, show_lots, tier, totals, unpool,
)

# Member 1 has lots for the days 10, 20 and 30; member 2 for 20; member 3 none.
THREE = [
    join(1), join(2), join(3), life(30), earn(1, 5), life(10), earn(1, 1), life(20), earn(1, 3), earn(2, 8),
]


def check_names_a_member(case, make):
    """make(id) is refused with -3 where there's no such member, and with -2 outside of the ids' range."""
    check_refusals(case, THREE, [(make(4), -3), (make(MOST_ID), -3)])
    check_refusals(case, [], [(make(1), -3)])
    check_ends(case, THREE, make, 1, MOST_ID)
    case.assertEqual(last(join(MOST_ID), make(MOST_ID))[0], 0)


class Lots(unittest.TestCase):

    def test_by_last_days_the_least_first(self):
        self.assertEqual(last(*THREE, show_lots(1)), [0, 10, 1, 20, 3, 30, 5])

    def test_by_number_not_by_text(self):
        self.assertEqual(last(join(1), life(100), earn(1, 1), life(9), earn(1, 2), show_lots(1)), [0, 9, 2, 100, 1])

    def test_without_lots(self):
        self.assertEqual(last(*THREE, show_lots(3)), [0])

    def test_one_lot_for_each_last_day(self):
        self.assertEqual(last(*THREE, clock(3), life(7), earn(1, 4), show_lots(1)), [0, 10, 5, 20, 3, 30, 5])

    def test_after_award_and_cancel(self):
        calls = [*THREE, award(1, 7, 3)]
        self.assertEqual(last(*calls, show_lots(1)), [0, 20, 1, 30, 5])
        self.assertEqual(last(*calls, cancel(7), show_lots(1)), [0, 10, 1, 20, 3, 30, 5])

    def test_after_gift(self):
        self.assertEqual(ask(*THREE, give(1, 2, 2), show_lots(1), show_lots(2))[-2:],
                         [[0, 20, 2, 30, 5], [0, 10, 1, 20, 9]])

    def test_own_lots_also_in_a_pool(self):
        self.assertEqual(ask(*THREE, pool(1, 2, 3), show_lots(2), show_lots(3))[-2:], [[0, 20, 8], [0]])

    def test_names_a_member(self):
        check_names_a_member(self, show_lots)

    def test_changes_nothing(self):
        check_changes_nothing(self, [*THREE, clock(5)], [show_lots(1), show_lots(3)])


class Tier(unittest.TestCase):

    STEPS = rules(9, [0, 0, 0, 0], [10, 20, 30])

    def test_at_first(self):
        self.assertEqual(last(join(1), tier(1)), [0, 0, 0])

    def test_steps_that_are_not_above_the_points(self):
        for points, step in ((1, 0), (9, 0), (10, 1), (11, 1), (20, 2), (29, 2), (30, 3), (1000000, 3)):
            with self.subTest(points=points):
                self.assertEqual(last(join(1), self.STEPS, earn(1, 1, points), tier(1)), [0, step, points])

    def test_points_together(self):
        calls = [join(1), join(2), self.STEPS, earn(1, 1, 7), earn(2, 1, 50), clock(9), earn(1, 1, 8), earn(1, 1, 0)]
        self.assertEqual(last(*calls, tier(1)), [0, 1, 15])

    def test_sixty_of_the_greatest(self):
        calls = [join(1), *[earn(1, 1, 1000000)] * 60, tier(1)]
        self.assertEqual(last(*calls), [0, 3, 60000000])

    def test_points_whose_day_plus_365_is_after_today(self):
        calls = [join(1), self.STEPS, clock(100), earn(1, 1, 25), clock(101), earn(1, 1, 5)]
        for day, answer in ((464, [0, 3, 30]), (465, [0, 0, 5]), (466, [0, 0, 0])):
            with self.subTest(day=day):
                self.assertEqual(last(*calls, clock(day), tier(1)), answer)

    def test_rules_of_now(self):
        calls = [join(1), self.STEPS, earn(1, 1, 25)]
        self.assertEqual(last(*calls, rules(9, [0, 0, 0, 0], [24, 25, 26]), tier(1)), [0, 2, 25])
        self.assertEqual(last(*calls, rules(9, [0, 0, 0, 0], [26, 27, 28]), tier(1)), [0, 0, 25])

    def test_points_stay_when_the_miles_are_gone(self):
        calls = [join(1), join(2), self.STEPS, earn(1, 5, 25), earn(1, 5), award(1, 7, 5), give(1, 2, 5)]
        self.assertEqual(ask(*calls, tier(1), tier(2), clock(10), tier(1))[-4::3], [[0, 2, 25], [0, 2, 25]])
        self.assertEqual(last(*calls, tier(2)), [0, 0, 0])

    def test_names_a_member(self):
        check_names_a_member(self, tier)

    def test_changes_nothing(self):
        check_changes_nothing(self, [*THREE, self.STEPS, earn(1, 1, 25), clock(200)], [tier(1), tier(2)])


class Hand(unittest.TestCase):

    def test_own_lots(self):
        self.assertEqual(ask(*THREE, hand(1), hand(2), hand(3))[-3:], [[0, 9], [0, 8], [0, 0]])

    def test_lots_of_the_whole_pool_for_each_of_it(self):
        calls = [*THREE, join(4), earn(4, 100), pool(3, 1, 2)]
        self.assertEqual(ask(*calls, hand(1), hand(2), hand(3), hand(4))[-4:], [[0, 17], [0, 17], [0, 17], [0, 100]])

    def test_without_the_pool_the_own_lots_again(self):
        self.assertEqual(ask(*THREE, pool(3, 1), unpool(1), hand(1), hand(3))[-2:], [[0, 9], [0, 0]])

    def test_after_award_and_cancel(self):
        calls = [*THREE, pool(3, 1), award(3, 7, 4)]
        self.assertEqual(last(*calls, hand(1)), [0, 5])
        self.assertEqual(last(*calls, cancel(7), hand(1)), [0, 9])

    def test_what_ran_out_is_not_at_hand(self):
        calls = [*THREE, pool(3, 1, 2)]
        for day, miles in ((10, 17), (11, 16), (20, 16), (21, 5), (31, 0)):
            with self.subTest(day=day):
                self.assertEqual(last(*calls, clock(day), hand(3)), [0, miles])

    def test_just_what_an_award_may_cost(self):
        calls = [*THREE, pool(3, 1, 2)]
        self.assertEqual(last(*calls, award(3, 7, 18)), [-7])
        self.assertEqual(ask(*calls, award(3, 7, 17), hand(1))[-1], [0, 0])

    def test_names_a_member(self):
        check_names_a_member(self, hand)

    def test_changes_nothing(self):
        check_changes_nothing(self, [*THREE, pool(3, 1)], [hand(1), hand(2), hand(3)])


class Forecast(unittest.TestCase):

    def test_last_days_before_this_day(self):
        for day, miles in ((0, 0), (10, 0), (11, 1), (20, 1), (21, 4), (30, 4), (31, 9), (LAST_OF_DAYS, 9)):
            with self.subTest(day=day):
                self.assertEqual(last(*THREE, forecast(1, day)), [0, miles])

    def test_is_what_the_clock_then_takes(self):
        for day in range(40):
            with self.subTest(day=day):
                told = ask(*THREE, forecast(1, day), forecast(2, day), clock(day))
                self.assertEqual(told[-3][1] + told[-2][1], told[-1][1])

    def test_day_before_today(self):
        self.assertEqual(ask(*THREE, clock(15), forecast(1, 14), forecast(1, 0), forecast(1, 15), forecast(1, 21))[-4:],
                         [[0, 0], [0, 0], [0, 0], [0, 3]])

    def test_lots_of_the_last_of_days_never_run_out(self):
        self.assertEqual(last(join(1), clock(36500), earn(1, 5), forecast(1, LAST_OF_DAYS)), [0, 0])

    def test_own_lots_also_in_a_pool(self):
        self.assertEqual(ask(*THREE, pool(3, 1, 2), forecast(3, 40), forecast(2, 40))[-2:], [[0, 0], [0, 8]])

    def test_names_a_member(self):
        check_names_a_member(self, lambda n: forecast(n, 21))

    def test_ends_of_days(self):
        check_ends(self, THREE, lambda n: forecast(1, n), 0, LAST_OF_DAYS)

    def test_range_before_no_member(self):
        check_refusals(self, THREE, [(forecast(4, -1), -2), (forecast(4, LAST_OF_DAYS + 1), -2)])

    def test_changes_nothing(self):
        check_changes_nothing(self, [*THREE, clock(5)], [forecast(1, 25), forecast(1, 0), forecast(1, LAST_OF_DAYS)])


class Totals(unittest.TestCase):

    def test_at_first(self):
        self.assertEqual(last(totals()), [0, 0, 0, 0, 0, 0])

    def test_after_each_call(self):
        calls = [
            join(1), totals(), join(2), totals(), rules(10, [50, 0, 0, 0], [100, 200, 300]), totals(),
            earn(1, 11), totals(), earn(2, 2), totals(), pool(2, 1), totals(), award(1, 7, 9), totals(),
            give(1, 2, 4), totals(), award(2, 8, 2), totals(), cancel(8), totals(), clock(11), totals(),
            cancel(7), totals(), unpool(1), totals(),
        ]
        self.assertEqual([answer[1:] for answer in ask(*calls)[1::2]], [
            [0, 0, 0, 0, 0], [0, 0, 0, 0, 0], [0, 0, 0, 0, 0],
            [16, 0, 0, 0, 16], [19, 0, 0, 0, 19], [19, 0, 0, 0, 19], [19, 9, 0, 0, 10],
            [19, 9, 0, 0, 10], [19, 11, 0, 0, 8], [19, 11, 2, 0, 10], [19, 11, 2, 10, 0],
            [19, 11, 11, 19, 0], [19, 11, 11, 19, 0],
        ])

    def test_cancelled_after_some_of_the_last_days(self):
        calls = [*THREE, pool(1, 2), award(2, 7, 14), clock(21), totals(), cancel(7), totals()]
        self.assertEqual(ask(*calls)[-4:],
                         [[0, 0], [0, 17, 14, 0, 0, 3], [0, 2, 12], [0, 17, 14, 14, 12, 5]])

    def test_refused_calls_add_nothing(self):
        refused = [earn(4, 1), award(1, 7, 10), cancel(7), give(1, 2, 10), clock(4)]
        self.assertEqual(last(*THREE, clock(5), *refused, totals()), [0, 17, 0, 0, 0, 17])

    def test_greatest(self):
        calls = [join(1), rules(1500, [300, 0, 0, 0], [1, 2, 3]), *[earn(1, 1000000)] * 397, totals()]
        self.assertEqual(last(*calls), [0, 1588000000, 0, 0, 0, 1588000000])

    def test_changes_nothing(self):
        check_changes_nothing(self, [], [totals()])
        check_changes_nothing(self, [*THREE, award(1, 7, 3), clock(15)], [totals()])


class Awards(unittest.TestCase):

    def test_at_first(self):
        self.assertEqual(ask(awards(), *THREE, awards())[0::11], [[0], [0]])

    def test_in_the_order_in_which_they_were_made(self):
        calls = [*THREE, award(2, 9, 3), award(1, 4, 2), award(1, 6, 1)]
        self.assertEqual(last(*calls, awards()), [0, 9, 2, 3, 4, 1, 2, 6, 1, 1])

    def test_who_asked_not_whose_miles_were_taken(self):
        self.assertEqual(last(*THREE, pool(3, 1), award(3, 7, 2), awards()), [0, 7, 3, 2])

    def test_cost_over_several_draws(self):
        self.assertEqual(last(*THREE, pool(3, 1, 2), award(3, 7, 17), awards()), [0, 7, 3, 17])

    def test_cancelled_is_gone_and_the_others_stay(self):
        calls = [*THREE, award(1, 9, 1), award(1, 4, 2), award(1, 6, 3), cancel(4)]
        self.assertEqual(last(*calls, awards()), [0, 9, 1, 1, 6, 1, 3])
        self.assertEqual(last(*calls, cancel(9), cancel(6), awards()), [0])

    def test_a_booking_used_again_stands_behind_the_others(self):
        calls = [*THREE, award(1, 9, 1), award(1, 4, 2), cancel(9), award(2, 9, 5)]
        self.assertEqual(last(*calls, awards()), [0, 4, 1, 2, 9, 2, 5])

    def test_last_days_of_its_draws_are_no_matter(self):
        calls = [*THREE, pool(3, 1, 2), award(3, 7, 17), clock(LAST_OF_DAYS), unpool(2)]
        self.assertEqual(last(*calls, awards()), [0, 7, 3, 17])

    def test_refused_award_is_none(self):
        self.assertEqual(last(*THREE, award(1, 7, 10), award(4, 8, 1), awards()), [0])

    def test_hundred(self):
        bookings = list(range(200, 100, -1))
        calls = [join(5), earn(5, 100), *[award(5, booking, 1) for booking in bookings], awards()]
        found = last(*calls)
        self.assertEqual((found[1::3], found[2::3], found[3::3]), (bookings, [5] * 100, [1] * 100))
        self.assertEqual(len(found), 301)

    def test_changes_nothing(self):
        check_changes_nothing(self, [], [awards()])
        check_changes_nothing(self, [*THREE, award(1, 7, 3), award(2, 3, 3), clock(15)], [awards()])


if __name__ == "__main__":
    unittest.main()
