"""A line of calls on a new house, answered one by one."""

from milehouse.awards import book_award, cancel_award
from milehouse.days import move_clock
from milehouse.forms import has_form, is_in_range, split_calls
from milehouse.members import add_member, earn_miles, give_miles, set_rules
from milehouse.plans import try_plan
from milehouse.pools import end_pool, make_pool
from milehouse.records import House
from milehouse.refusals import NOT_OF_FORM, OUT_OF_RANGE
from milehouse.reports import tell_awards, tell_forecast, tell_hand, tell_lots, tell_tier, tell_totals

LAST_THAT_CHANGES = 8


def answers(calls):
    """For each call of the line how many numbers are answered, then these."""
    house = House()
    told = []
    for call in split_calls(calls):
        answer = answer_call(house, call)
        told.append(len(answer))
        told.extend(answer)
    return told


def answer_call(house, call):
    """The answer of the house to one call, a list of rows."""
    if not has_form(call):
        return [NOT_OF_FORM]
    if not is_in_range(call):
        return [OUT_OF_RANGE]
    place = call[0][0]
    if place <= LAST_THAT_CHANGES:
        return carry_out(house, place, call[0][1:], call[1:])
    return look_up(house, place, call[0][1:], call[1:])


def carry_out(house, place, plain, rows):
    """The answer to one of the calls that change the house, from rules to clock."""
    if place == 0:
        return set_rules(house, plain[0], rows[0], rows[1])
    if place == 1:
        return add_member(house, plain[0])
    if place == 2:
        return earn_miles(house, plain[0], plain[1], plain[2])
    if place == 3:
        return book_award(house, plain[0], plain[1], plain[2])
    if place == 4:
        return cancel_award(house, plain[0])
    if place == 5:
        return make_pool(house, rows[0])
    if place == 6:
        return end_pool(house, plain[0])
    if place == 7:
        return give_miles(house, plain[0], plain[1], plain[2])
    return move_clock(house, plain[0])


def look_up(house, place, plain, rows):
    """The answer to one of the calls that change nothing, from lots to awards."""
    if place == 9:
        return tell_lots(house, plain[0])
    if place == 10:
        return tell_tier(house, plain[0])
    if place == 11:
        return tell_hand(house, plain[0])
    if place == 12:
        return tell_forecast(house, plain[0], plain[1])
    if place == 13:
        return try_plan(house, plain[0], rows[0])
    if place == 14:
        return tell_totals(house)
    return tell_awards(house)
