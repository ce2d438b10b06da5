"""Promise 0: rules."""

import unittest

from tests.helper import check_ends, check_refusals, earn, house_after, join, kept, last, life, lots, rules

FLAT = [0, 0, 0, 0]


class Rules(unittest.TestCase):

    def test_answers_zero(self):
        self.assertEqual(last(rules(100, [1, 2, 3, 4], [10, 20, 30])), [0])

    def test_keeps_what_is_told(self):
        house = house_after(rules(100, [1, 2, 3, 4], [10, 20, 30]))
        self.assertEqual((house.life, house.bonuses, house.steps), (100, [1, 2, 3, 4], [10, 20, 30]))

    def test_at_first(self):
        house = house_after()
        self.assertEqual((house.life, house.bonuses, house.steps), (365, FLAT, [1, 2, 3]))

    def test_rules_hold_from_now_on(self):
        calls = [join(1), earn(1, 10, 20), rules(7, [0, 0, 50, 0], [10, 20, 30])]
        self.assertEqual(last(*calls, earn(1, 10)), [0, 15, 2])

    def test_lots_keep_their_last_days(self):
        house = house_after(join(1), earn(1, 10), life(7), earn(1, 1))
        self.assertEqual(lots(house, 1), [(7, 1), (365, 10)])

    def test_later_rules_take_the_place_of_earlier_ones(self):
        first = rules(9, [300, 300, 300, 300], [4, 5, 6])
        second = rules(8, [1, 0, 300, 9], [1, 999999, 1000000])
        self.assertEqual(kept(house_after(first, second)), kept(house_after(second)))

    def test_steps_that_do_not_rise(self):
        steps = ([1, 1, 2], [1, 2, 2], [3, 2, 1], [2, 1, 3], [1, 3, 2], [5, 5, 5])
        check_refusals(self, [life(7)], [(rules(9, [1, 1, 1, 1], row), -5) for row in steps])

    def test_ends_of_ranges(self):
        check_ends(self, [life(7)], life, 1, 1500)
        for place in range(4):
            bonuses = [5, 5, 5, 5]
            check_ends(self, [], lambda n: rules(9, bonuses[:place] + [n] + bonuses[place + 1:], [1, 2, 3]), 0, 300)
        for place in range(3):
            steps = [5, 6, 7]
            check_ends(self, [], lambda n: rules(9, FLAT, steps[:place] + [n] + steps[place + 1:]), 1, 1000000)

    def test_greatest_of_all(self):
        self.assertEqual(last(rules(1500, [300, 300, 300, 300], [999998, 999999, 1000000])), [0])

    def test_rows_of_other_lengths(self):
        steps = [1, 2, 3]
        bonuses = ([], [0], [0, 0, 0], [0, 0, 0, 0, 0], [0] * 50)
        check_refusals(self, [life(7)], [(rules(9, row, steps), -2) for row in bonuses])
        others = ([], [1], [1, 2], [1, 2, 3, 4], list(range(1, 51)))
        check_refusals(self, [life(7)], [(rules(9, FLAT, row), -2) for row in others])

    def test_range_before_order(self):
        check_refusals(self, [], [(rules(0, FLAT, [3, 2, 1]), -2), (rules(1, FLAT, [3, 2, 0]), -2)])


if __name__ == "__main__":
    unittest.main()
