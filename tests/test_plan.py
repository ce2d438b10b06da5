"""Promise 13: plan."""

import unittest

from tests.helper import (
    LAST_OF_DAYS, MOST_ID, ask, award, check_changes_nothing, check_ends, check_refusals, clock, earn, join, last,
    life, plan, pool,
)

# Member 1 has 1 mile till day 10, 3 till 20 and 5 till 30; member 2 has 8 till 20; member 3 none.
THREE = [
    join(1), join(2), join(3), life(30), earn(1, 5), life(10), earn(1, 1), life(20), earn(1, 3), earn(2, 8),
]


class Paid(unittest.TestCase):

    def check_plans(self, calls, plans):
        for pairs, paid, ran_out in plans:
            with self.subTest(pairs=pairs):
                self.assertEqual(last(*calls, plan(1, *pairs)), [0, paid, ran_out])

    def test_no_pairs(self):
        self.assertEqual(last(*THREE, plan(1)), [0, 0, 0])
        self.assertEqual(last(*THREE, plan(3)), [0, 0, 0])
        self.assertEqual(last(*THREE, clock(11), plan(1)), [0, 0, 0])

    def test_one_pair(self):
        self.check_plans(THREE, (((0, 1), 1, 0), ((10, 9), 1, 0), ((11, 8), 1, 1), ((21, 5), 1, 4), ((30, 5), 1, 4)))

    def test_just_what_is_left_and_one_more(self):
        self.check_plans(THREE, (
            ((0, 9), 1, 0), ((0, 10), 0, 0), ((11, 8), 1, 1), ((11, 9), 0, 1),
            ((5, 4, 21, 5), 2, 0), ((5, 4, 21, 6), 1, 0), ((5, 2, 21, 5), 2, 2), ((5, 2, 21, 6), 1, 2),
        ))

    def test_last_day_on_the_day_of_the_pair_and_before_it(self):
        self.check_plans(THREE, (((10, 9), 1, 0), ((11, 9), 0, 1), ((20, 8), 1, 1), ((21, 8), 0, 4), ((31, 1), 0, 9)))

    def test_taken_oldest_first(self):
        self.check_plans(THREE, (((0, 1, 11, 8), 2, 0), ((0, 4, 21, 5), 2, 0), ((0, 5, 21, 4, 31, 1), 2, 0)))

    def test_what_runs_out_between_the_pairs(self):
        self.check_plans(THREE, (
            ((11, 1, 21, 1, 31, 1), 2, 7), ((0, 2, 15, 1, 21, 1, 30, 4), 4, 1), ((0, 2, 15, 1, 21, 1, 31, 4), 3, 5),
        ))

    def test_two_pairs_of_one_day(self):
        self.check_plans(THREE, (
            ((0, 4, 0, 5), 2, 0), ((0, 4, 0, 6), 1, 0), ((11, 3, 11, 5), 2, 1), ((11, 3, 11, 6), 1, 1),
            ((5, 1, 5, 1, 5, 1), 3, 0),
        ))

    def test_ends_at_the_first_cost_that_cannot_be_paid(self):
        self.check_plans(THREE, (
            ((0, 10, 0, 1), 0, 0), ((0, 10, 11, 1, 31, 1), 0, 0), ((11, 9, 21, 1), 0, 1), ((0, 1, 21, 6, 31, 1), 1, 3),
        ))

    def test_nothing_left(self):
        self.check_plans(THREE, (((0, 9, 0, 1), 1, 0), ((LAST_OF_DAYS, 1), 0, 9), ((0, MOST_ID), 0, 0)))
        self.assertEqual(last(*THREE, plan(3, 0, 1)), [0, 0, 0])

    def test_from_today_on(self):
        self.check_plans([*THREE, clock(11)], (((11, 8), 1, 0), ((11, 9), 0, 0), ((21, 5), 1, 3)))

    def test_forty_numbers(self):
        self.assertEqual(last(join(1), earn(1, 20), plan(1, *[5, 1] * 20)), [0, 20, 0])
        self.assertEqual(last(join(1), earn(1, 19), plan(1, *[5, 1] * 20)), [0, 19, 0])
        rising = [number for day in range(20) for number in (day * 2, 1)]
        self.assertEqual(last(*THREE, plan(1, *rising)), [0, 9, 0])

    def test_every_even_length_to_forty(self):
        for count in range(21):
            with self.subTest(count=count):
                self.assertEqual(last(join(1), earn(1, 100), plan(1, *[365, 2] * count)), [0, count, 0])

    def test_own_lots_pools_aside(self):
        calls = [*THREE, pool(3, 1, 2)]
        self.assertEqual(ask(*calls, plan(3, 0, 1), plan(2, 0, 8), plan(2, 0, 9), plan(1, 0, 9, 21, 1))[-4:],
                         [[0, 0, 0], [0, 1, 0], [0, 0, 0], [0, 1, 0]])

    def test_lots_of_the_last_of_days_never_run_out(self):
        self.assertEqual(last(join(1), clock(36500), earn(1, 5), plan(1, LAST_OF_DAYS, 5)), [0, 1, 0])

    def test_greatest_cost(self):
        calls = [join(1), *[earn(1, 1000000)] * 398]
        self.assertEqual(last(*calls, plan(1, 0, 398000000)), [0, 1, 0])
        self.assertEqual(last(*calls, plan(1, 0, 398000001)), [0, 0, 0])


class Changes(unittest.TestCase):

    def test_changes_nothing(self):
        plans = [plan(1), plan(1, 0, 9), plan(1, 0, 10), plan(1, 11, 1, 21, 1, 31, 1), plan(1, LAST_OF_DAYS, 1)]
        check_changes_nothing(self, THREE, plans)
        check_changes_nothing(self, [*THREE, pool(1, 2)], plans)

    def test_miles_may_be_spent_after_it(self):
        self.assertEqual(last(*THREE, plan(1, 31, 1), award(1, 7, 9)), [0, 1, 10, 1, 1, 20, 3, 1, 30, 5])


class Refused(unittest.TestCase):

    def test_no_member(self):
        check_refusals(self, THREE, [(plan(4), -3), (plan(4, 0, 1), -3), (plan(MOST_ID, 0, 1), -3)])

    def test_day_before_today(self):
        refused = [plan(1, 4, 1), plan(1, 0, 1), plan(1, 4, 1, 5, 1)]
        check_refusals(self, [*THREE, clock(5)], [(call, -10) for call in refused])
        self.assertEqual(last(*THREE, clock(5), plan(1, 5, 1)), [0, 1, 0])

    def test_day_before_the_pair_before(self):
        refused = [
            plan(1, 6, 1, 5, 1), plan(1, 1, 1, 6, 1, 5, 1), plan(1, 6, 1, 5, 1, 6, 1), plan(1, *[7, 1] * 19, 6, 1),
        ]
        check_refusals(self, THREE, [(call, -10) for call in refused])

    def test_also_behind_a_cost_that_cannot_be_paid(self):
        check_refusals(self, [*THREE, clock(5)], [(plan(1, 6, 100, 5, 1), -10), (plan(1, 6, 100, 7, 1, 4, 1), -10)])

    def test_no_member_before_days(self):
        check_refusals(self, [*THREE, clock(5)], [(plan(4, 4, 1), -3), (plan(4, 6, 1, 5, 1), -3)])

    def test_range_before_no_member_before_days(self):
        refused = [
            plan(4, 0, 0), plan(4, -1, 1), plan(4, 1), plan(1, 4, 1, 6, 0), plan(1, 6, 1, 5, 1, LAST_OF_DAYS + 1, 1),
        ]
        check_refusals(self, [*THREE, clock(5)], [(call, -2) for call in refused])

    def test_rows_of_other_lengths(self):
        refused = [plan(1, *[1] * length) for length in [*range(1, 41, 2), *range(41, 51)]]
        check_refusals(self, THREE, [(call, -2) for call in refused])

    def test_ends_of_ranges(self):
        check_ends(self, THREE, lambda n: plan(n, 0, 1), 1, MOST_ID)
        check_ends(self, THREE, lambda n: plan(n), 1, MOST_ID)
        check_ends(self, THREE, lambda n: plan(1, n, 1), 0, LAST_OF_DAYS)
        check_ends(self, THREE, lambda n: plan(1, *[0, 1] * 19, n, 1), 0, LAST_OF_DAYS)
        check_ends(self, THREE, lambda n: plan(1, 0, n), 1, MOST_ID)
        check_ends(self, THREE, lambda n: plan(1, *[0, 1] * 19, 0, n), 1, MOST_ID)


if __name__ == "__main__":
    unittest.main()
