"""Promises 5 and 6: pool and unpool."""

import unittest

from tests.helper import MOST_ID, ask, award, check_ends, check_refusals, earn, house_after, join, last, pool, unpool

TWENTY = [join(who) for who in range(1, 21)]
EIGHT = [pool(who, who + 1) for who in range(1, 17, 2)]


class Pool(unittest.TestCase):

    def test_two_to_six(self):
        for count in range(2, 7):
            with self.subTest(count=count):
                self.assertEqual(last(*TWENTY, pool(*range(1, count + 1))), [0])

    def test_order_of_ids_and_of_pools(self):
        self.assertEqual(house_after(*TWENTY, pool(9, 2, 5), pool(4, 3)).pools, [[9, 2, 5], [4, 3]])

    def test_rows_of_other_lengths(self):
        rows = ((), (1,), (1, 2, 3, 4, 5, 6, 7), tuple(range(1, 51)))
        check_refusals(self, TWENTY, [(pool(*row), -2) for row in rows])

    def test_ends_of_range(self):
        check_ends(self, TWENTY, lambda n: pool(n, 2), 1, MOST_ID)
        check_ends(self, TWENTY, lambda n: pool(3, 4, 5, 6, 7, n), 1, MOST_ID)
        self.assertEqual(last(join(1), join(MOST_ID), pool(MOST_ID, 1)), [0])

    def test_one_is_no_member(self):
        check_refusals(self, TWENTY, [(pool(21, 1), -3), (pool(1, 2, 3, 4, 5, 21), -3), (pool(21, 22), -3)])

    def test_an_id_twice(self):
        check_refusals(self, TWENTY, [(pool(1, 1), -9), (pool(1, 2, 3, 4, 5, 1), -9)])

    def test_one_is_in_a_pool(self):
        calls = [*TWENTY, pool(1, 2), pool(3, 4)]
        check_refusals(self, calls, [(pool(1, 5), -9), (pool(5, 4), -9), (pool(2, 1), -9), (pool(2, 3), -9)])

    def test_eight_pools(self):
        self.assertEqual(ask(*TWENTY, *EIGHT)[-8:], [[0]] * 8)
        check_refusals(self, TWENTY + EIGHT, [(pool(17, 18), -6)])
        self.assertEqual(last(*TWENTY, *EIGHT, unpool(5), pool(17, 18)), [0])

    def test_range_before_no_member_before_in_a_pool_before_eight(self):
        refused = [
            (pool(0, 21), -2), (pool(21), -2), (pool(21, 21), -3), (pool(1, 21), -3), (pool(17, 21), -3),
            (pool(1, 17), -9), (pool(17, 17), -9),
        ]
        check_refusals(self, TWENTY + EIGHT, refused)


class Unpool(unittest.TestCase):

    def test_by_any_of_its_members(self):
        for who in (4, 2, 6):
            with self.subTest(who=who):
                calls = [*TWENTY, pool(1, 3), pool(4, 2, 6), pool(8, 7), unpool(who)]
                self.assertEqual(last(*calls), [0])
                self.assertEqual(house_after(*calls).pools, [[1, 3], [8, 7]])

    def test_its_members_may_be_pooled_again_behind_the_others(self):
        calls = [*TWENTY, pool(1, 2), pool(3, 4), unpool(1), pool(2, 5, 1)]
        self.assertEqual(house_after(*calls).pools, [[3, 4], [2, 5, 1]])

    def test_lots_stay_with_whom_they_were(self):
        calls = [*TWENTY, earn(1, 5), earn(2, 6), pool(1, 2), unpool(1)]
        self.assertEqual(last(*calls, award(2, 7, 6)), [0, 2, 365, 6])

    def test_no_pool_has_this_id(self):
        check_refusals(self, [*TWENTY, pool(1, 2)], [(unpool(3), -9), (unpool(21), -9), (unpool(MOST_ID), -9)])
        check_refusals(self, [], [(unpool(1), -9)])
        check_refusals(self, [*TWENTY, pool(1, 2), unpool(1)], [(unpool(1), -9), (unpool(2), -9)])

    def test_ends_of_range(self):
        check_ends(self, [*TWENTY, pool(1, 2)], unpool, 1, MOST_ID)


if __name__ == "__main__":
    unittest.main()
