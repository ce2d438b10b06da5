"""Calls as rows, lines made of them, and answers taken apart again."""

import copy

from milehouse.house import answer_call, answers
from milehouse.records import House

MOST_ID = 1000000000
LAST_OF_DAYS = 36524


def rules(life, bonuses, steps):
    return [[0, life], bonuses, steps]


def join(who):
    return [[1, who]]


def earn(who, miles, points=0):
    return [[2, who, miles, points]]


def award(who, booking, cost):
    return [[3, who, booking, cost]]


def cancel(booking):
    return [[4, booking]]


def pool(*ids):
    return [[5], list(ids)]


def unpool(who):
    return [[6, who]]


def give(who, other, n):
    return [[7, who, other, n]]


def clock(day):
    return [[8, day]]


def show_lots(who):
    return [[9, who]]


def tier(who):
    return [[10, who]]


def hand(who):
    return [[11, who]]


def forecast(who, day):
    return [[12, who, day]]


def plan(who, *pairs):
    return [[13, who], list(pairs)]


def totals():
    return [[14]]


def awards():
    return [[15]]


def life(days):
    """Rules of which only the life is of interest."""
    return rules(days, [0, 0, 0, 0], [1, 2, 3])


def line_of(calls):
    """The calls as they stand in the one list."""
    line = []
    for call in calls:
        line.extend(call[0])
        for row in call[1:]:
            line.append(len(row))
            line.extend(row)
    return line


def apart(told):
    """The answers of a line, one list each."""
    found = []
    at = 0
    while at < len(told):
        behind = at + 1 + told[at]
        found.append(told[at + 1:behind])
        at = behind
    return found


def ask(*calls):
    """The answers to a line, one list each."""
    return apart(answers(line_of(calls)))


def last(*calls):
    """The answer to the last call of a line."""
    return ask(*calls)[-1]


def house_after(*calls):
    """A house on which these calls, none of them refused, were made."""
    house = House()
    for call in calls:
        answer = answer_call(house, call)
        if answer[0] != 0:
            raise AssertionError(f"{call} answered {answer}")
    return house


def kept(house):
    """All that a house keeps, in its order, as plain values that later calls don't change."""
    found = dict(vars(house))
    found["members"] = [(who, sorted(m.lots.items()), m.points) for who, m in house.members.items()]
    found["awards"] = [(booking, a.asker, a.draws) for booking, a in house.awards.items()]
    return copy.deepcopy(found)


def held(house):
    return sum(sum(member.lots.values()) for member in house.members.values())


def lots(house, who):
    return sorted(house.members[who].lots.items())


def check_refusals(case, calls, refused):
    """After the calls, each refused call answers its number alone and changes nothing."""
    house = house_after(*calls)
    before = kept(house)
    for call, number in refused:
        with case.subTest(call=call):
            case.assertEqual(answer_call(house, call), [number])
            case.assertEqual(kept(house), before)
            case.assertEqual(last(*calls, call), [number])


def check_changes_nothing(case, calls, asked):
    """After the calls, each asked call is answered, twice the same, and changes nothing."""
    house = house_after(*calls)
    before = kept(house)
    for call in asked:
        with case.subTest(call=call):
            answer = answer_call(house, call)
            case.assertEqual(answer[0], 0)
            case.assertEqual(kept(house), before)
            case.assertEqual(ask(*calls, call, call)[-2:], [answer, answer])


def check_ends(case, calls, make, least, greatest):
    """make(number) is a call that answers -2 just outside of least to greatest, and something else at both ends."""
    for number in (least, greatest):
        with case.subTest(number=number):
            case.assertNotEqual(last(*calls, make(number)), [-2])
    outside = (least - 1, greatest + 1, -1000000000000, 1000000000000)
    check_refusals(case, calls, [(make(number), -2) for number in outside])
