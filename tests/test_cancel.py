"""Promise 4: cancel."""

import unittest

from tests.helper import (
    MOST_ID, ask, award, awards, cancel, check_ends, check_refusals, clock, earn, give, house_after, join, kept, last,
    life, lots, pool, show_lots, totals, unpool,
)

# A pool whose award 7 has draws of member 2 for day 10, of 1 for day 20 and of 2 for day 30.
DRAWN = [
    join(1), join(2), pool(1, 2), life(10), earn(2, 3), life(20), earn(1, 4), life(30), earn(2, 6), award(1, 7, 13),
]


def cancelled_on(day):
    return [*DRAWN, clock(day), cancel(7)]


class Cancel(unittest.TestCase):

    def test_all_is_put_back(self):
        self.assertEqual(last(*DRAWN, cancel(7)), [0, 13, 0])
        house = house_after(*DRAWN, cancel(7))
        self.assertEqual((lots(house, 1), lots(house, 2)), ([(20, 4)], [(10, 3), (30, 6)]))

    def test_award_is_taken_away(self):
        house = house_after(*DRAWN, earn(2, 1), award(2, 8, 1), cancel(7))
        self.assertEqual(kept(house)["awards"], [(8, 2, [(2, 30, 1)])])

    def test_booking_may_be_used_again(self):
        self.assertEqual(last(*DRAWN, cancel(7), award(2, 7, 4)), [0, 2, 10, 3, 1, 20, 1])
        self.assertEqual(last(*DRAWN, cancel(7), award(2, 7, 4), cancel(7)), [0, 4, 0])

    def test_miles_join_a_lot_of_their_last_day(self):
        house = house_after(join(1), earn(1, 10), award(1, 7, 4), cancel(7))
        self.assertEqual(lots(house, 1), [(365, 10)])

    def test_miles_go_back_to_whose_they_were_also_without_the_pool(self):
        house = house_after(*DRAWN, unpool(1), cancel(7))
        self.assertEqual((lots(house, 1), lots(house, 2)), ([(20, 4)], [(10, 3), (30, 6)]))

    def test_miles_given_before_the_award_go_back_to_the_one_who_had_them_then(self):
        house = house_after(join(1), join(2), earn(1, 5), give(1, 2, 5), award(2, 7, 5), cancel(7))
        self.assertEqual((lots(house, 1), lots(house, 2)), ([], [(365, 5)]))

    def test_put_back_on_the_last_day_run_out_behind_it(self):
        for day, answer in (
            (9, [0, 13, 0]), (10, [0, 13, 0]), (11, [0, 10, 3]), (20, [0, 10, 3]), (21, [0, 6, 7]), (30, [0, 6, 7]),
            (31, [0, 0, 13]),
        ):
            with self.subTest(day=day):
                self.assertEqual(last(*cancelled_on(day)), answer)

    def test_lots_when_some_ran_out(self):
        for day, first, second in (
            (10, [0, 20, 4], [0, 10, 3, 30, 6]), (11, [0, 20, 4], [0, 30, 6]), (21, [0], [0, 30, 6]), (31, [0], [0]),
        ):
            with self.subTest(day=day):
                self.assertEqual(ask(*cancelled_on(day), show_lots(1), show_lots(2))[-2:], [first, second])

    def test_put_back_miles_run_out_behind_their_last_day_as_others_do(self):
        self.assertEqual(last(*cancelled_on(10), clock(11)), [0, 3, 2, 3])
        self.assertEqual(last(*cancelled_on(11), clock(21)), [0, 4, 1, 4])

    def test_sums(self):
        for day, run_out in ((0, 0), (11, 3), (21, 7), (31, 13)):
            with self.subTest(day=day):
                self.assertEqual(last(*cancelled_on(day), totals()), [0, 13, 13, 13, run_out, 13 - run_out])

    def test_award_is_gone_also_when_all_ran_out(self):
        self.assertEqual(ask(*cancelled_on(31), awards(), cancel(7))[-2:], [[0], [-8]])


class Refused(unittest.TestCase):

    def test_no_award(self):
        check_refusals(self, DRAWN, [(cancel(8), -8), (cancel(1), -8), (cancel(MOST_ID), -8)])
        check_refusals(self, [], [(cancel(7), -8)])
        check_refusals(self, [*DRAWN, cancel(7)], [(cancel(7), -8)])

    def test_ends_of_range(self):
        check_ends(self, DRAWN, cancel, 1, MOST_ID)


if __name__ == "__main__":
    unittest.main()
