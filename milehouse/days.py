"""The call clock: what a later day takes away."""

from milehouse.lots import run_out_before
from milehouse.members import counts_on
from milehouse.refusals import TOO_EARLY


def move_clock(house, day):
    """Promise 8."""
    if day < house.today:
        return [TOO_EARLY]
    house.today = day
    total = 0
    told = []
    for who in list(house.members):
        member = house.members[who]
        # Points that count no more are dropped, so that they leave room for new pairs.
        member.points = [pair for pair in member.points if counts_on(pair[0], day)]
        miles = run_out_before(member.lots, day)
        if miles > 0:
            told.extend([who, miles])
            total += miles
    house.run_out += total
    return [0, total] + told
