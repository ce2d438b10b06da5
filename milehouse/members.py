"""The calls rules, join, earn and give."""

from milehouse.lots import count_miles, put_miles, take_oldest
from milehouse.records import Member
from milehouse.refusals import AT_ODDS, FULL, NO_MEMBER, THERE_ALREADY, TOO_FEW_MILES

MOST_MEMBERS = 30
MOST_PAIRS = 60
LAST_OF_DAYS = 36524
YEAR = 365


def set_rules(house, life, bonuses, steps):
    """Promise 0."""
    if steps[0] >= steps[1] or steps[1] >= steps[2]:
        return [AT_ODDS]
    house.life = life
    house.bonuses = list(bonuses)
    house.steps = list(steps)
    return [0]


def add_member(house, newcomer):
    """Promise 1."""
    if newcomer in house.members:
        return [THERE_ALREADY]
    if len(house.members) >= MOST_MEMBERS:
        return [FULL]
    house.members[newcomer] = Member()
    return [0]


def counts_on(day, today):
    """Whether points that came on a day still count today."""
    return day + YEAR > today


def points_of_year(house, member):
    """The member's points that still count today, together."""
    return sum([number for day, number in member.points if counts_on(day, house.today)])


def tier_of(house, member):
    """How many of the steps are not above the member's points of the year."""
    points = points_of_year(house, member)
    return len([step for step in house.steps if step <= points])


def earn_miles(house, earner, miles, points):
    """Promise 2."""
    if earner not in house.members:
        return [NO_MEMBER]
    member = house.members[earner]
    if points > 0 and len(member.points) >= MOST_PAIRS:
        return [FULL]
    credited = miles * (100 + house.bonuses[tier_of(house, member)]) // 100
    put_miles(member.lots, min(house.today + house.life, LAST_OF_DAYS), credited)
    house.earned += credited
    if points > 0:
        member.points.append((house.today, points))
    return [0, credited, tier_of(house, member)]


def give_miles(house, giver, taker, miles):
    """Promise 7."""
    if giver not in house.members or taker not in house.members:
        return [NO_MEMBER]
    if giver == taker:
        return [AT_ODDS]
    holdings = [(giver, house.members[giver].lots)]
    if count_miles(holdings) < miles:
        return [TOO_FEW_MILES]
    answer = [0]
    for owner, last_day, taken in take_oldest(holdings, miles):
        put_miles(house.members[taker].lots, last_day, taken)
        answer.extend([last_day, taken])
    return answer
