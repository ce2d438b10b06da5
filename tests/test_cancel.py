"""Promise 4: cancel."""

import unittest

from milehouse.house import answer_call
from tests.helper import (
    MOST_ID, award, cancel, check_ends, check_refusals, earn, give, held, house_after, join, kept, last, life, lots,
    pool, unpool,
)

# A pool whose award 7 has draws of member 2 for day 10, of 1 for day 20 and of 2 for day 30.
DRAWN = [
    join(1), join(2), pool(1, 2), life(10), earn(2, 3), life(20), earn(1, 4), life(30), earn(2, 6), award(1, 7, 13),
]


def cancelled_on(day):
    house = house_after(*DRAWN)
    house.today = day
    return answer_call(house, cancel(7)), house


class Cancel(unittest.TestCase):

    def test_all_is_put_back(self):
        self.assertEqual(last(*DRAWN, cancel(7)), [0, 13, 0])
        house = house_after(*DRAWN, cancel(7))
        self.assertEqual((lots(house, 1), lots(house, 2)), ([(20, 4)], [(10, 3), (30, 6)]))

    def test_award_is_taken_away(self):
        house = house_after(*DRAWN, earn(2, 1), award(2, 8, 1), cancel(7))
        self.assertEqual(kept(house)["awards"], [(8, 2, [(2, 30, 1)])])

    def test_booking_may_be_used_again(self):
        self.assertEqual(last(*DRAWN, cancel(7), award(2, 7, 4)), [0, 2, 10, 3, 1, 20, 1])
        self.assertEqual(last(*DRAWN, cancel(7), award(2, 7, 4), cancel(7)), [0, 4, 0])

    def test_miles_join_a_lot_of_their_last_day(self):
        house = house_after(join(1), earn(1, 10), award(1, 7, 4), cancel(7))
        self.assertEqual(lots(house, 1), [(365, 10)])

    def test_miles_go_back_to_whose_they_were_also_without_the_pool(self):
        house = house_after(*DRAWN, unpool(1), cancel(7))
        self.assertEqual((lots(house, 1), lots(house, 2)), ([(20, 4)], [(10, 3), (30, 6)]))

    def test_miles_given_before_the_award_go_back_to_the_one_who_had_them_then(self):
        house = house_after(join(1), join(2), earn(1, 5), give(1, 2, 5), award(2, 7, 5), cancel(7))
        self.assertEqual((lots(house, 1), lots(house, 2)), ([], [(365, 5)]))

    def test_put_back_on_the_last_day_run_out_behind_it(self):
        for day, answer in (
            (9, [0, 13, 0]), (10, [0, 13, 0]), (11, [0, 10, 3]), (20, [0, 10, 3]), (21, [0, 6, 7]), (30, [0, 6, 7]),
            (31, [0, 0, 13]),
        ):
            with self.subTest(day=day):
                self.assertEqual(cancelled_on(day)[0], answer)

    def test_lots_when_some_ran_out(self):
        house = cancelled_on(11)[1]
        self.assertEqual((lots(house, 1), lots(house, 2)), ([(20, 4)], [(30, 6)]))
        house = cancelled_on(31)[1]
        self.assertEqual((lots(house, 1), lots(house, 2)), ([], []))

    def test_sums(self):
        for day, run_out in ((0, 0), (11, 3), (21, 7), (31, 13)):
            with self.subTest(day=day):
                house = cancelled_on(day)[1]
                self.assertEqual((house.earned, house.spent, house.returned), (13, 13, 13))
                self.assertEqual((house.run_out, held(house)), (run_out, 13 - run_out))

    def test_award_is_gone_also_when_all_ran_out(self):
        house = cancelled_on(31)[1]
        self.assertEqual(answer_call(house, cancel(7)), [-8])


class Refused(unittest.TestCase):

    def test_no_award(self):
        check_refusals(self, DRAWN, [(cancel(8), -8), (cancel(1), -8), (cancel(MOST_ID), -8)])
        check_refusals(self, [], [(cancel(7), -8)])
        check_refusals(self, [*DRAWN, cancel(7)], [(cancel(7), -8)])

    def test_ends_of_range(self):
        check_ends(self, DRAWN, cancel, 1, MOST_ID)


if __name__ == "__main__":
    unittest.main()
