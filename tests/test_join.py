"""Promise 1: join."""

import unittest

from tests.helper import MOST_ID, ask, check_ends, check_refusals, earn, house_after, join, last


class Join(unittest.TestCase):

    def test_answers_zero(self):
        self.assertEqual(ask(join(5), join(3)), [[0], [0]])

    def test_members_stand_in_the_order_of_joining(self):
        self.assertEqual(list(house_after(join(5), join(9), join(3)).members), [5, 9, 3])

    def test_new_member_has_no_lots_and_no_points(self):
        member = house_after(join(5)).members[5]
        self.assertEqual((member.lots, member.points), ({}, []))

    def test_a_member_already(self):
        check_refusals(self, [join(5), earn(5, 10, 10)], [(join(5), -4)])

    def test_thirty_members(self):
        full = [join(who) for who in range(1, 31)]
        self.assertEqual(ask(*full), [[0]] * 30)
        check_refusals(self, full, [(join(31), -6), (join(MOST_ID), -6)])

    def test_a_member_already_comes_before_thirty_members(self):
        check_refusals(self, [join(who) for who in range(1, 31)], [(join(1), -4), (join(30), -4)])

    def test_ends_of_range(self):
        check_ends(self, [], join, 1, MOST_ID)
        self.assertEqual(last(join(1), join(MOST_ID)), [0])

    def test_range_before_thirty_members(self):
        check_refusals(self, [join(who) for who in range(1, 31)], [(join(0), -2)])


if __name__ == "__main__":
    unittest.main()
