"""The calls award and cancel."""

from milehouse.lots import count_miles, put_miles, take_oldest
from milehouse.pools import at_hand
from milehouse.records import Award
from milehouse.refusals import FULL, NO_AWARD, NO_MEMBER, THERE_ALREADY, TOO_FEW_MILES

MOST_AWARDS = 100


def book_award(house, asker, booking, cost):
    """Promise 3."""
    if asker not in house.members:
        return [NO_MEMBER]
    if booking in house.awards:
        return [THERE_ALREADY]
    holdings = at_hand(house, asker)
    if count_miles(holdings) < cost:
        return [TOO_FEW_MILES]
    if len(house.awards) >= MOST_AWARDS:
        return [FULL]
    draws = take_oldest(holdings, cost)
    house.spent += cost
    house.awards[booking] = Award(asker, draws)
    answer = [0]
    for draw in draws:
        answer.extend(draw)
    return answer


def cost_of(award):
    """The miles of all the draws of an award, together."""
    return sum([miles for owner, last_day, miles in award.draws])


def cancel_award(house, booking):
    """Promise 4."""
    if booking not in house.awards:
        return [NO_AWARD]
    award = house.awards.pop(booking)
    put_back = 0
    ran_out = 0
    for owner, last_day, miles in award.draws:
        if last_day < house.today:
            ran_out += miles
        else:
            put_miles(house.members[owner].lots, last_day, miles)
            put_back += miles
    house.returned += put_back + ran_out
    house.run_out += ran_out
    return [0, put_back, ran_out]
