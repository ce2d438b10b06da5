"""Miles put into lots and taken from them, oldest first. Lots are a dict of miles by last day."""


def put_miles(lots, last_day, miles):
    """Puts miles with a last day into the lots."""
    lots[last_day] = lots.get(last_day, 0) + miles


def take_miles(lots, last_day, miles):
    """Takes miles, no more than are there, from the lot with this last day."""
    if lots[last_day] == miles:
        lots.pop(last_day)
    else:
        lots[last_day] -= miles


def count_miles(holdings):
    """How many miles the holdings, pairs of a member's id and lots, have together."""
    miles = 0
    for owner, lots in holdings:
        miles += sum(lots.values())
    return miles


def miles_before(lots, day):
    """How many miles of the lots have a last day before this day."""
    return sum([lots[last_day] for last_day in lots if last_day < day])


def run_out_before(lots, day):
    """Takes away every lot whose last day is before this day, and gives back how many miles went."""
    miles = miles_before(lots, day)
    for last_day in list(lots):
        if last_day < day:
            lots.pop(last_day)
    return miles


def oldest_first(holdings):
    """For each lot of the holdings its last day and its holding's index, in the order of taking."""
    order = []
    for index, holding in enumerate(holdings):
        for last_day in holding[1]:
            order.append((last_day, index))
    return sorted(order)


def take_oldest(holdings, wanted):
    """Takes the wanted miles, no more than are there, and gives back a draw for each lot they came from."""
    draws = []
    missing = wanted
    for last_day, index in oldest_first(holdings):
        if missing == 0:
            break
        owner = holdings[index][0]
        lots = holdings[index][1]
        miles = min(missing, lots[last_day])
        take_miles(lots, last_day, miles)
        draws.append((owner, last_day, miles))
        missing -= miles
    return draws
