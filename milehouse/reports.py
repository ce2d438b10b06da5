"""The calls lots, tier, hand, forecast, totals and awards, which change nothing."""

from milehouse.awards import cost_of
from milehouse.lots import count_miles, miles_before
from milehouse.members import points_of_year, tier_of
from milehouse.pools import at_hand
from milehouse.refusals import NO_MEMBER


def tell_lots(house, asked):
    """Promise 9."""
    if asked not in house.members:
        return [NO_MEMBER]
    lots = house.members[asked].lots
    answer = [0]
    for last_day in sorted(lots):
        answer.extend([last_day, lots[last_day]])
    return answer


def tell_tier(house, asked):
    """Promise 10."""
    if asked not in house.members:
        return [NO_MEMBER]
    member = house.members[asked]
    return [0, tier_of(house, member), points_of_year(house, member)]


def tell_hand(house, asked):
    """Promise 11."""
    if asked not in house.members:
        return [NO_MEMBER]
    return [0, count_miles(at_hand(house, asked))]


def tell_forecast(house, asked, day):
    """Promise 12."""
    if asked not in house.members:
        return [NO_MEMBER]
    return [0, miles_before(house.members[asked].lots, day)]


def tell_totals(house):
    """Promise 14."""
    held = count_miles([(who, member.lots) for who, member in house.members.items()])
    return [0, house.earned, house.spent, house.returned, house.run_out, held]


def tell_awards(house):
    """Promise 15."""
    answer = [0]
    for booking, award in house.awards.items():
        answer.extend([booking, award.asker, cost_of(award)])
    return answer
