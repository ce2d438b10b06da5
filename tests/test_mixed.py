"""Lines that mix all sixteen calls over many days, beside a slow house that keeps its miles one way for all."""

import random
import unittest

from milehouse.house import answer_call, answers
from milehouse.records import House
from tests.helper import (
    LAST_OF_DAYS, apart, ask, award, awards, cancel, clock, earn, forecast, give, hand, held, join, kept, last, life,
    line_of, plan, pool, rules, show_lots, tier, totals, unpool,
)

ID = (1, 10 ** 9)
DAY = (0, LAST_OF_DAYS)
ARGUMENTS = {
    0: [(1, 1500)], 1: [ID], 2: [ID, (1, 10 ** 6), (0, 10 ** 6)], 3: [ID, ID, ID], 4: [ID], 5: [], 6: [ID],
    7: [ID, ID, ID], 8: [DAY], 9: [ID], 10: [ID], 11: [ID], 12: [ID, DAY], 13: [ID], 14: [], 15: [],
}


def out_of_range(call):
    place, *plain = call[0]
    if any(not least <= number <= most for number, (least, most) in zip(plain, ARGUMENTS[place], strict=True)):
        return True
    if place == 0:
        bonuses, steps = call[1:]
        lengths = len(bonuses) != 4 or len(steps) != 3
        return lengths or any(not 0 <= b <= 300 for b in bonuses) or any(not 1 <= s <= 10 ** 6 for s in steps)
    if place == 5:
        return not 2 <= len(call[1]) <= 6 or any(not 1 <= who <= 10 ** 9 for who in call[1])
    if place == 13:
        days, costs = call[1][::2], call[1][1::2]
        lengths = len(call[1]) % 2 == 1 or len(call[1]) > 40
        return lengths or any(not 0 <= d <= LAST_OF_DAYS for d in days) or any(not 1 <= c <= 10 ** 9 for c in costs)
    return False


class SlowHouse:
    """Every lot is one entry (last day, whose) of one dict; every pair of points one row of one list."""

    def __init__(self):
        self.today, self.life, self.bonuses, self.steps = 0, 365, [0] * 4, [1, 2, 3]
        self.ids, self.lots, self.pairs, self.pools, self.awards = [], {}, [], [], []
        self.sums = [0, 0, 0, 0]

    def answer(self, call):
        if out_of_range(call):
            return [-2]
        place, *plain = call[0]
        methods = (
            self.rules, self.join, self.earn, self.award, self.cancel, self.pool, self.unpool, self.give, self.clock,
            self.show_lots, self.tier, self.hand, self.forecast, self.plan, self.totals, self.show_awards,
        )
        found = methods[place](*plain, *call[1:])
        return [found] if isinstance(found, int) else [0, *found]

    def points(self, who):
        return sum(n for whose, day, n in self.pairs if whose == who and day + 365 > self.today)

    def tier_of(self, who):
        return sum(step <= self.points(who) for step in self.steps)

    def put(self, who, day, n):
        self.lots[day, who] = self.lots.get((day, who), 0) + n

    def family(self, who):
        return next((ids for ids in self.pools if who in ids), [who])

    def there(self, ids):
        return sum(n for (day, who), n in self.lots.items() if who in ids)

    def take(self, ids, wanted):
        draws = []
        for day, who in sorted((key for key in self.lots if key[1] in ids), key=lambda k: (k[0], ids.index(k[1]))):
            n = min(wanted - sum(draw[2] for draw in draws), self.lots[day, who])
            if n > 0:
                draws.append((who, day, n))
                self.lots[day, who] -= n
        self.lots = {key: n for key, n in self.lots.items() if n > 0}
        return draws

    def rules(self, days, bonuses, steps):
        if steps != sorted(set(steps)):
            return -5
        self.life, self.bonuses, self.steps = days, bonuses, steps
        return []

    def join(self, who):
        if who in self.ids:
            return -4
        if len(self.ids) == 30:
            return -6
        self.ids.append(who)
        return []

    def earn(self, who, miles, points):
        if who not in self.ids:
            return -3
        if points > 0 and sum(pair[0] == who for pair in self.pairs) == 60:
            return -6
        credited = miles + miles * self.bonuses[self.tier_of(who)] // 100
        self.put(who, min(self.today + self.life, LAST_OF_DAYS), credited)
        self.sums[0] += credited
        if points > 0:
            self.pairs.append((who, self.today, points))
        return [credited, self.tier_of(who)]

    def award(self, who, booking, cost):
        if who not in self.ids:
            return -3
        if booking in [row[0] for row in self.awards]:
            return -4
        if self.there(self.family(who)) < cost:
            return -7
        if len(self.awards) == 100:
            return -6
        draws = self.take(self.family(who), cost)
        self.sums[1] += cost
        self.awards.append((booking, who, cost, draws))
        return [number for draw in draws for number in draw]

    def cancel(self, booking):
        found = [row for row in self.awards if row[0] == booking]
        if not found:
            return -8
        self.awards.remove(found[0])
        back = [draw for draw in found[0][3] if draw[1] >= self.today]
        for draw in back:
            self.put(*draw)
        put_back = sum(draw[2] for draw in back)
        self.sums[2] += found[0][2]
        self.sums[3] += found[0][2] - put_back
        return [put_back, found[0][2] - put_back]

    def pool(self, ids):
        if not set(ids) <= set(self.ids):
            return -3
        if len(set(ids)) < len(ids) or any(who in other for other in self.pools for who in ids):
            return -9
        if len(self.pools) == 8:
            return -6
        self.pools.append(ids)
        return []

    def unpool(self, who):
        before = len(self.pools)
        self.pools = [ids for ids in self.pools if who not in ids]
        return -9 if len(self.pools) == before else []

    def give(self, who, other, n):
        if who not in self.ids or other not in self.ids:
            return -3
        if who == other:
            return -5
        if self.there([who]) < n:
            return -7
        draws = self.take([who], n)
        for whose, day, miles in draws:
            self.put(other, day, miles)
        return [number for draw in draws for number in draw[1:]]

    def clock(self, day):
        if day < self.today:
            return -10
        self.today = day
        gone = {key: n for key, n in self.lots.items() if key[0] < day}
        self.lots = {key: n for key, n in self.lots.items() if key[0] >= day}
        self.pairs = [pair for pair in self.pairs if pair[1] + 365 > day]
        self.sums[3] += sum(gone.values())
        by_member = [(who, sum(n for key, n in gone.items() if key[1] == who)) for who in self.ids]
        return [sum(gone.values()), *[number for row in by_member if row[1] > 0 for number in row]]

    def show_lots(self, who):
        if who not in self.ids:
            return -3
        return [number for (day, whose), n in sorted(self.lots.items()) if whose == who for number in (day, n)]

    def tier(self, who):
        return [self.tier_of(who), self.points(who)] if who in self.ids else -3

    def hand(self, who):
        return [self.there(self.family(who))] if who in self.ids else -3

    def forecast(self, who, before):
        if who not in self.ids:
            return -3
        return [sum(n for (day, whose), n in self.lots.items() if whose == who and day < before)]

    def plan(self, who, pairs):
        if who not in self.ids:
            return -3
        days = [self.today, *pairs[::2]]
        if days != sorted(days):
            return -10
        left = sorted((day, n) for (day, whose), n in self.lots.items() if whose == who)
        paid = ran_out = 0
        for day, cost in zip(pairs[::2], pairs[1::2]):
            ran_out += sum(n for until, n in left if until < day)
            left = [lot for lot in left if lot[0] >= day]
            if sum(n for until, n in left) < cost:
                break
            while cost > 0:
                until, n = left.pop(0)
                if n > cost:
                    left.insert(0, (until, n - cost))
                cost -= min(cost, n)
            paid += 1
        return [paid, ran_out]

    def totals(self):
        return [*self.sums, sum(self.lots.values())]

    def show_awards(self):
        return [number for row in self.awards for number in row[:3]]


class Chance:
    """Calls with numbers that are met again and again, on days that mostly rise; many calls of one favourite place."""

    def __init__(self, seed, step, members, cost, bookings, favourite):
        self.chance = random.Random(seed)
        self.step, self.members, self.cost, self.bookings = step, members, cost, bookings
        self.favourite = favourite
        self.day = self.chance.choice((0, 0, 0, 30000, LAST_OF_DAYS - 5 * step))

    def number(self, least, most):
        return self.chance.randint(least, most)

    def who(self):
        return self.number(1, self.members) if self.number(0, 30) else self.number(0, self.members + 1)

    def booking(self):
        return self.number(1, self.bookings) if self.number(0, 20) else self.number(-2, 1)

    def later(self):
        self.day = max(0, min(LAST_OF_DAYS + 1, self.day + self.number(-1, self.step)))
        return self.day

    def rules(self):
        days = self.number(1, 4 * self.step) if self.number(0, 9) else self.number(0, 1501)
        bonuses = [self.number(0, 300) for turn in range(4 if self.number(0, 19) else 5)]
        steps = self.chance.sample(range(1, 60), 3)
        return rules(days, bonuses, sorted(steps) if self.number(0, 4) else steps)

    def plan(self):
        pairs = []
        day = self.day
        for turn in range(self.number(0, 20) if self.number(0, 9) else self.number(0, 24)):
            day = max(0, day + self.number(0 if self.number(0, 40) else -1, self.step))
            pairs.extend((day, self.number(1, self.cost // 3 + 1)))
        return plan(self.who(), *(pairs if self.number(0, 19) else pairs[:-1]))

    def call(self):
        turns = (
            (1, self.rules), (3, lambda: join(self.who())),
            (8, lambda: earn(self.who(), self.number(self.number(0, 1), 60), self.number(self.number(-1, 1), 12))),
            (6, lambda: award(self.who(), self.booking(), self.number(1, self.cost))),
            (4, lambda: cancel(self.booking())),
            (3, lambda: pool(*[self.who() for turn in range(self.number(2, 3 if self.number(0, 3) else 7))])),
            (1, lambda: unpool(self.who())), (4, lambda: give(self.who(), self.who(), self.number(1, self.cost))),
            (4, lambda: clock(self.later())), (2, lambda: show_lots(self.who())), (2, lambda: tier(self.who())),
            (2, lambda: hand(self.who())), (2, lambda: forecast(self.who(), self.day + self.number(-1, 3 * self.step))),
            (4, self.plan), (1, totals), (1, awards),
        )
        weights = [weight + 50 * (place == self.favourite) for place, (weight, make) in enumerate(turns)]
        return self.chance.choices(turns, weights)[0][1]()

    def line(self):
        return [join(who) for who in range(1, 1 + self.members * 4 // 5)] + [self.call() for turn in range(370)]


def some_lines():
    kinds = (
        (3, 8, 60, 12, None), (40, 8, 200, 12, None), (40, 4, 100, 12, 8), (150, 10, 100, 6, 2), (3, 35, 30, 12, 1),
        (2, 2, 30, 9, 2), (1, 35, 30, 12, 5), (2, 3, 5, 200, 3), (30, 5, 40, 9, 4), (30, 5, 40, 9, 13),
    )
    for seed in range(60):
        yield Chance(seed, *kinds[seed % len(kinds)]).line()


class ManyLines(unittest.TestCase):

    def test_answers_are_those_of_the_slow_house(self):
        seen = set()
        for calls in some_lines():
            slow = SlowHouse()
            expected = [slow.answer(call) for call in calls]
            found = ask(*calls)
            for turn, call in enumerate(calls):
                self.assertEqual(found[turn], expected[turn], (turn, call))
                seen.add((call[0][0], min(0, found[turn][0])))
        refusals = {
            0: (-5, -2), 1: (-6, -4, -2), 2: (-6, -3, -2), 3: (-7, -6, -4, -3, -2), 4: (-8, -2),
            5: (-9, -6, -3, -2), 6: (-9, -2), 7: (-7, -5, -3, -2), 8: (-10, -2), 9: (-3, -2), 10: (-3, -2),
            11: (-3, -2), 12: (-3, -2), 13: (-10, -3, -2), 14: (), 15: (),
        }
        wanted = {(place, number) for place in refusals for number in (*refusals[place], 0)}
        self.assertEqual(seen, wanted)

    def check_house(self, house, call, answer, before):
        if answer[0] < 0:
            self.assertEqual(len(answer), 1)
        if answer[0] < 0 or call[0][0] > 8:
            self.assertEqual(kept(house), before)
        self.assertEqual(held(house), house.earned - house.spent + house.returned - house.run_out)
        pooled = [who for ids in house.pools for who in ids]
        self.assertEqual(len(pooled), len(set(pooled)))
        for member in house.members.values():
            self.assertEqual([lot for lot in member.lots.items() if lot[1] < 1 or lot[0] < house.today], [])
            self.assertEqual([pair for pair in member.points if pair[0] + 365 <= house.today], [])

    def test_what_holds_after_every_call(self):
        for calls in some_lines():
            house = House()
            found = []
            for call in calls:
                before = kept(house)
                answer = answer_call(house, call)
                self.check_house(house, call, answer, before)
                found.append(answer)
            self.assertEqual(apart(answers(line_of(calls))), found)


class OneStory(unittest.TestCase):
    """All sixteen calls on one house, worked out by hand."""

    def test_a_family_over_two_years(self):
        story = (
            (join(7), [0]), (join(3), [0]), (join(5), [0]),
            (rules(100, [0, 10, 50, 200], [10, 20, 30]), [0]),
            (earn(7, 50, 15), [0, 50, 1]), (earn(7, 5, 0), [0, 5, 1]), (tier(7), [0, 1, 15]),
            (clock(40), [0, 0]), (earn(3, 30, 0), [0, 30, 0]), (earn(7, 9, 5), [0, 9, 2]),
            (show_lots(7), [0, 100, 55, 140, 9]), (pool(3, 7), [0]), (hand(3), [0, 94]), (hand(5), [0, 0]),
            (award(3, 1, 70), [0, 7, 100, 55, 3, 140, 15]), (award(7, 2, 16), [0, 3, 140, 15, 7, 140, 1]),
            (awards(), [0, 1, 3, 70, 2, 7, 16]), (totals(), [0, 94, 86, 0, 0, 8]),
            (unpool(7), [0]), (give(7, 5, 3), [0, 140, 3]), (forecast(5, 141), [0, 3]), (forecast(5, 140), [0, 0]),
            (clock(101), [0, 0]), (cancel(1), [0, 15, 55]), (totals(), [0, 94, 86, 70, 55, 23]),
            (plan(3, 101, 5, 140, 10, 140, 1), [0, 2, 0]), (plan(3, 101, 5, 141, 10), [0, 1, 10]),
            (plan(3, 100, 5), [-10]), (clock(100), [-10]), (life(500), [0]), (earn(5, 20, 0), [0, 20, 0]),
            (clock(141), [0, 23, 7, 5, 3, 15, 5, 3]), (award(5, 1, 20), [0, 5, 601, 20]),
            (cancel(2), [0, 0, 16]), (awards(), [0, 1, 5, 20]), (totals(), [0, 114, 106, 86, 94, 0]),
            (tier(7), [0, 3, 20]), (clock(365), [0, 0]), (tier(7), [0, 3, 5]), (clock(405), [0, 0]),
            (tier(7), [0, 0, 0]), (cancel(1), [0, 20, 0]), (clock(602), [0, 20, 5, 20]),
            (totals(), [0, 114, 106, 106, 114, 0]), (awards(), [0]),
        )
        found = ask(*[call for call, answer in story])
        for turn, (call, answer) in enumerate(story):
            with self.subTest(turn=turn, call=call):
                self.assertEqual(found[turn], answer)
        self.assertEqual({call[0][0] for call, answer in story}, set(range(16)))


class WholeLine(unittest.TestCase):

    def test_longest_answers(self):
        bookings = [award(1, booking, 1) for booking in range(1, 101)]
        calls = [join(1), earn(1, 1000), *bookings, *[awards()] * 298]
        found = ask(*calls)
        self.assertEqual(len(calls), 400)
        self.assertEqual(found[-298:], [found[-1]] * 298)
        self.assertEqual(len(found[-1]), 301)

    def test_many_lots(self):
        lives = [call for days in range(190, 0, -1) for call in (life(days), earn(1, days))]
        calls = [join(1), *lives, show_lots(1), plan(1, *[number for day in range(20) for number in (day * 9, 50)])]
        self.assertEqual(ask(*calls)[-2], [0, *[number for day in range(1, 191) for number in (day, day)]])
        self.assertEqual(last(*calls, clock(100)), [0, 4950, 1, 4950])


if __name__ == "__main__":
    unittest.main()
