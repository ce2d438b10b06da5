"""The one list in, the one list out; the forms of calls."""

import unittest

from milehouse.forms import split_calls
from milehouse.house import answer_call, answers
from milehouse.records import House
from tests.helper import (
    ask, award, awards, cancel, check_refusals, clock, earn, forecast, give, hand, join, kept, line_of, plan, pool,
    rules, show_lots, tier, totals, unpool,
)


class Line(unittest.TestCase):

    def test_numbers_as_they_stand(self):
        line = [
            1, 5, 1, 6, 0, 30, 4, 50, 0, 0, 0, 3, 1, 2, 3, 2, 5, 11, 0, 5, 2, 6, 5, 3, 6, 9, 4, 4, 9, 7, 5, 6, 2, 6, 7,
        ]
        told = [1, 0, 1, 0, 1, 0, 3, 0, 16, 0, 1, 0, 4, 0, 5, 30, 4, 3, 0, 4, 0, 3, 0, 30, 2, 1, -9]
        self.assertEqual(answers(line), told)

    def test_one_call(self):
        self.assertEqual(answers([1, 5]), [1, 0])
        self.assertEqual(answers([5, 0]), [1, -2])

    def test_rows_of_other_lengths_are_read_whole(self):
        self.assertEqual(answers([0, 9, 0, 2, 1, 1, 1, 5, 5, 1, 5, 1, 5]), [1, -2, 1, 0, 1, -2, 1, -4])

    def test_every_call_is_read(self):
        calls = [
            clock(3), show_lots(1), tier(1), hand(1), forecast(1, 2), plan(1, 8, 1, 9, 2), plan(1), totals(), awards(),
            rules(1, [], [7] * 50), join(1), earn(1, 2, 3), award(1, 2, 3), cancel(1), pool(), pool(1, 2), unpool(1),
            give(1, 2, 3),
        ]
        self.assertEqual(split_calls(line_of(calls)), calls)

    def test_numbers_of_the_later_calls_as_they_stand(self):
        line = [
            1, 5, 0, 30, 4, 0, 0, 0, 0, 3, 1, 2, 3, 2, 5, 11, 2, 3, 5, 9, 4, 8, 3, 9, 5, 10, 5, 11, 5, 12, 5, 31,
            13, 5, 4, 30, 7, 31, 1, 13, 5, 0, 13, 5, 1, 8, 14, 15, 8, 31, 8, 30,
        ]
        told = [
            1, 0, 1, 0, 3, 0, 11, 2, 4, 0, 5, 30, 4, 2, 0, 0, 3, 0, 30, 7, 3, 0, 2, 2, 2, 0, 7, 2, 0, 7,
            3, 0, 1, 0, 3, 0, 0, 0, 1, -2, 6, 0, 11, 4, 0, 0, 7, 4, 0, 9, 5, 4, 4, 0, 7, 5, 7, 1, -10,
        ]
        self.assertEqual(answers(line), told)

    def test_no_call_of_a_line_answers_not_of_its_form(self):
        calls = [
            rules(1, [], []), join(0), earn(0, 0, 0), award(0, 0, 0), cancel(0), pool(), unpool(0), give(0, 0, 0),
            clock(-1), show_lots(0), tier(0), hand(0), forecast(0, 0), plan(0), totals(), awards(),
        ]
        self.assertEqual(ask(*calls), [[-2]] * 14 + [[0, 0, 0, 0, 0, 0], [0]])

    def test_four_hundred_calls(self):
        self.assertEqual(ask(join(1), *[earn(1, 1000000, 0)] * 399), [[0]] + [[0, 1000000, 0]] * 399)

    def test_longest_line(self):
        calls = [pool(*range(1, 51)), plan(1, *range(1, 51))] * 200
        self.assertEqual(ask(*calls), [[-2]] * 400)

    def test_what_is_handed_in_is_not_changed(self):
        line = line_of([rules(9, [1, 2, 3, 4], [4, 5, 6]), join(1), join(2), pool(2, 1), earn(1, 5, 5), award(2, 1, 3),
                        plan(1, 5, 1, 10, 1), clock(10)])
        before = list(line)
        answers(line)
        self.assertEqual(line, before)

    def test_nothing_is_kept_from_one_time_to_the_next(self):
        line = line_of([join(1), join(2), earn(1, 5, 5), rules(9, [9, 9, 9, 9], [4, 5, 6]), earn(1, 100), pool(2, 1),
                        award(2, 1, 3), clock(40)])
        first = answers(line)
        self.assertEqual(answers(line), first)
        self.assertEqual(ask(clock(0), totals(), awards()), [[0, 0], [0, 0, 0, 0, 0, 0], [0]])
        self.assertEqual(ask(award(1, 1, 1), unpool(1), cancel(1), join(1), earn(1, 100)),
                         [[-3], [-9], [-8], [0], [0, 100, 0]])

    def test_what_is_given_back_is_a_new_list_of_whole_numbers(self):
        told = answers(line_of([join(1), earn(1, 5, 5), award(1, 1, 3)]))
        self.assertEqual([number for number in told if type(number) is not int], [])
        told.clear()
        self.assertEqual(answers([1, 5]), [1, 0])


class Form(unittest.TestCase):
    """-1 can't come from a line; the rows of a call can be of another form."""

    def test_not_of_its_form(self):
        calls = (
            [], [[]], [[], [1, 2]], [[16]], [[-1]], [[-1, 5]], [[1]], [[1, 5, 6]], [[1, 5], []], [[5]],
            [[5], [1, 2], []], [[5, 1], [1, 2]], [[0, 9], [0, 0, 0, 0]], [[2, 1, 1]], [[8]], [[8, 1, 2]], [[9]],
            [[10, 1], []], [[11, 1, 1]], [[12, 1]], [[13, 1]], [[13], []], [[13, 1], [], []], [[14, 1]], [[14], []],
            [[15, 1]], [[15], []],
        )
        for call in calls:
            with self.subTest(call=call):
                house = House()
                self.assertEqual(answer_call(house, call), [-1])
                self.assertEqual(kept(house), kept(House()))

    def test_form_before_range(self):
        for call in ([[1, 0, 0]], [[1, 0], [0]], [[5, 0], [0]], [[0, 0], [1]], [[8, -1, 0]], [[13, 0, 0], [1]]):
            with self.subTest(call=call):
                self.assertEqual(answer_call(House(), call), [-1])

    def test_range_anywhere_in_the_call_before_the_rest(self):
        check_refusals(self, [join(1)], [(give(2, 2, 0), -2), (earn(9, 1, -1), -2), (pool(9, 9, 0), -2)])


if __name__ == "__main__":
    unittest.main()
