"""The call plan: costs paid on coming days, worked out on a copy of a member's lots."""

from milehouse.lots import count_miles, run_out_before, take_oldest
from milehouse.refusals import NO_MEMBER, TOO_EARLY


def try_plan(house, planner, pairs):
    """Promise 13."""
    if planner not in house.members:
        return [NO_MEMBER]
    days = pairs[0::2]
    costs = pairs[1::2]
    if goes_back(house.today, days):
        return [TOO_EARLY]
    lots = dict(house.members[planner].lots)
    holdings = [(planner, lots)]
    paid = 0
    ran_out = 0
    for day, cost in zip(days, costs):
        ran_out += run_out_before(lots, day)
        if count_miles(holdings) < cost:
            break
        take_oldest(holdings, cost)
        paid += 1
    return [0, paid, ran_out]


def goes_back(today, days):
    """Whether one of the days is before the one ahead of it, today standing ahead of them all."""
    latest = today
    for day in days:
        if day < latest:
            return True
        latest = day
    return False
