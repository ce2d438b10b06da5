"""The one list in, the one list out; the forms of calls; what holds whatever the calls are."""

import random
import unittest

from milehouse.forms import is_in_range, split_calls
from milehouse.house import answer_call, answers
from milehouse.records import House
from tests.helper import (
    apart, ask, award, cancel, check_refusals, earn, give, held, join, kept, line_of, pool, rules, unpool,
)


class Line(unittest.TestCase):

    def test_numbers_as_they_stand(self):
        line = [
            1, 5, 1, 6, 0, 30, 4, 50, 0, 0, 0, 3, 1, 2, 3, 2, 5, 11, 0, 5, 2, 6, 5, 3, 6, 9, 4, 4, 9, 7, 5, 6, 2, 6, 7,
        ]
        told = [1, 0, 1, 0, 1, 0, 3, 0, 16, 0, 1, 0, 4, 0, 5, 30, 4, 3, 0, 4, 0, 3, 0, 30, 2, 1, -9]
        self.assertEqual(answers(line), told)

    def test_one_call(self):
        self.assertEqual(answers([1, 5]), [1, 0])
        self.assertEqual(answers([5, 0]), [1, -2])

    def test_rows_of_other_lengths_are_read_whole(self):
        self.assertEqual(answers([0, 9, 0, 2, 1, 1, 1, 5, 5, 1, 5, 1, 5]), [1, -2, 1, 0, 1, -2, 1, -4])

    def test_every_call_is_read(self):
        calls = [
            [[8, 3]], [[9, 1]], [[10, 1]], [[11, 1]], [[12, 1, 2]], [[13, 1], [8, 1, 9, 2]], [[13, 1], []],
            [[14]], [[15]],
            rules(1, [], [7] * 50), join(1), earn(1, 2, 3), award(1, 2, 3), cancel(1), pool(), pool(1, 2), unpool(1),
            give(1, 2, 3),
        ]
        self.assertEqual(split_calls(line_of(calls)), calls)

    def test_calls_that_are_not_answered_yet(self):
        later = [[[8, 3]], [[9, 1]], [[10, 1]], [[11, 1]], [[12, 1, 2]], [[13, 1], [8, 1]], [[14]], [[15]]]
        self.assertEqual(ask(join(1), *later, join(1)), [[0]] + [[-1]] * 8 + [[-4]])

    def test_four_hundred_calls(self):
        self.assertEqual(ask(join(1), *[earn(1, 1000000, 0)] * 399), [[0]] + [[0, 1000000, 0]] * 399)

    def test_longest_line(self):
        calls = [pool(*range(1, 51))] * 400
        self.assertEqual(ask(*calls), [[-2]] * 400)

    def test_what_is_handed_in_is_not_changed(self):
        line = line_of([rules(9, [1, 2, 3, 4], [4, 5, 6]), join(1), join(2), pool(2, 1), earn(1, 5, 5), award(2, 1, 3)])
        before = list(line)
        answers(line)
        self.assertEqual(line, before)

    def test_nothing_is_kept_from_one_time_to_the_next(self):
        line = line_of([join(1), join(2), earn(1, 5, 5), rules(9, [9, 9, 9, 9], [4, 5, 6]), earn(1, 100), pool(2, 1),
                        award(2, 1, 3)])
        first = answers(line)
        self.assertEqual(answers(line), first)
        self.assertEqual(ask(award(1, 1, 1), unpool(1), cancel(1), join(1), earn(1, 100)),
                         [[-3], [-9], [-8], [0], [0, 100, 0]])

    def test_what_is_given_back_is_a_new_list_of_whole_numbers(self):
        told = answers(line_of([join(1), earn(1, 5, 5), award(1, 1, 3)]))
        self.assertEqual([number for number in told if type(number) is not int], [])
        told.clear()
        self.assertEqual(answers([1, 5]), [1, 0])


class Form(unittest.TestCase):
    """-1 can't come from a line; the rows of a call can be of another form."""

    def test_not_of_its_form(self):
        calls = (
            [], [[]], [[], [1, 2]], [[16]], [[-1]], [[-1, 5]], [[1]], [[1, 5, 6]], [[1, 5], []], [[5]],
            [[5], [1, 2], []], [[5, 1], [1, 2]], [[0, 9], [0, 0, 0, 0]], [[2, 1, 1]], [[14, 1]],
        )
        for call in calls:
            with self.subTest(call=call):
                house = House()
                self.assertEqual(answer_call(house, call), [-1])
                self.assertEqual(kept(house), kept(House()))

    def test_form_before_range(self):
        for call in ([[1, 0, 0]], [[1, 0], [0]], [[5, 0], [0]], [[0, 0], [1]]):
            with self.subTest(call=call):
                self.assertEqual(answer_call(House(), call), [-1])

    def test_range_anywhere_in_the_call_before_the_rest(self):
        check_refusals(self, [join(1)], [(give(2, 2, 0), -2), (earn(9, 1, -1), -2), (pool(9, 9, 0), -2)])


class Ranges(unittest.TestCase):
    """The ranges of the calls from clock on; those of the calls before it stand with their promises."""

    def check_range(self, make, least, greatest):
        for number in (least - 1, least, greatest, greatest + 1):
            with self.subTest(call=make(number)):
                self.assertEqual(is_in_range(make(number)), least <= number <= greatest)

    def test_days(self):
        self.check_range(lambda n: [[8, n]], 0, 36524)
        self.check_range(lambda n: [[12, 1, n]], 0, 36524)
        self.check_range(lambda n: [[13, 1], [n, 1]], 0, 36524)
        self.check_range(lambda n: [[13, 1], [0, 1] * 19 + [n, 1]], 0, 36524)

    def test_ids(self):
        for place in (9, 10, 11):
            self.check_range(lambda n: [[place, n]], 1, 1000000000)
        self.check_range(lambda n: [[12, n, 0]], 1, 1000000000)
        self.check_range(lambda n: [[13, n], []], 1, 1000000000)

    def test_costs(self):
        self.check_range(lambda n: [[13, 1], [0, n]], 1, 1000000000)
        self.check_range(lambda n: [[13, 1], [0, 1] * 19 + [0, n]], 1, 1000000000)

    def test_lengths_of_plan(self):
        fits = [length for length in range(51) if is_in_range([[13, 1], [1] * length])]
        self.assertEqual(fits, list(range(0, 41, 2)))

    def test_without_numbers(self):
        self.assertTrue(is_in_range([[14]]))
        self.assertTrue(is_in_range([[15]]))


def some_call(chance):
    """A call with small numbers, so that members, bookings and lots are met again and again."""
    who = chance.randint(0, 8)
    booking = chance.randint(0, 6)
    return chance.choice((
        rules(chance.randint(0, 5), [chance.randint(0, 300) for turn in range(4)], chance.sample(range(1, 40), 3)),
        rules(chance.randint(1, 5), [chance.randint(0, 300) for turn in range(4)], [5, 9, 20]),
        join(who),
        earn(who, chance.randint(0, 30), chance.randint(-1, 9)),
        earn(who, chance.randint(1, 30), chance.randint(0, 2)),
        award(who, booking, chance.randint(0, 60)),
        cancel(booking),
        pool(*[chance.randint(1, 8) for turn in range(chance.randint(1, 4))]),
        unpool(who),
        give(who, chance.randint(0, 8), chance.randint(0, 40)),
    ))


class Whatever(unittest.TestCase):
    """What holds after every call of many lines."""

    def check_house(self, house, answer, before):
        if answer[0] < 0:
            self.assertEqual(len(answer), 1)
            self.assertEqual(kept(house), before)
        self.assertEqual(held(house), house.earned - house.spent + house.returned - house.run_out)
        pooled = [who for ids in house.pools for who in ids]
        self.assertEqual(len(pooled), len(set(pooled)))
        for member in house.members.values():
            self.assertEqual([miles for miles in member.lots.values() if miles < 1], [])

    def test_many_lines(self):
        chance = random.Random(2)
        for turn in range(60):
            calls = [some_call(chance) for number in range(200)]
            house = House()
            found = []
            for call in calls:
                before = kept(house)
                answer = answer_call(house, call)
                self.check_house(house, answer, before)
                found.append(answer)
            self.assertEqual(apart(answers(line_of(calls))), found)


if __name__ == "__main__":
    unittest.main()
