"""How calls stand in a line, and what their numbers may be."""

# One entry a place: the (least, greatest) of each plain argument, then for each row the
# lengths that it may have and the ranges that its numbers go through in turn.
FORMS = (
    (((1, 1500),), (((4,), ((0, 300),)), ((3,), ((1, 1000000),)))),  # rules
    (((1, 1000000000),), ()),  # join
    (((1, 1000000000), (1, 1000000), (0, 1000000)), ()),  # earn
    (((1, 1000000000), (1, 1000000000), (1, 1000000000)), ()),  # award
    (((1, 1000000000),), ()),  # cancel
    ((), (((2, 3, 4, 5, 6), ((1, 1000000000),)),)),  # pool
    (((1, 1000000000),), ()),  # unpool
    (((1, 1000000000), (1, 1000000000), (1, 1000000000)), ()),  # give
    (((0, 36524),), ()),  # clock
    (((1, 1000000000),), ()),  # lots
    (((1, 1000000000),), ()),  # tier
    (((1, 1000000000),), ()),  # hand
    (((1, 1000000000), (0, 36524)), ()),  # forecast
    (
        ((1, 1000000000),),
        (
            (
                (0, 2, 4, 6, 8, 10, 12, 14, 16, 18, 20, 22, 24, 26, 28, 30, 32, 34, 36, 38, 40),
                ((0, 36524), (1, 1000000000)),
            ),
        ),
    ),  # plan
    ((), ()),  # totals
    ((), ()),  # awards
)


def split_calls(line):
    """The calls of a line, each a list of rows: its place and plain arguments, then its lists."""
    calls = []
    at = 0
    while at < len(line):
        form = FORMS[line[at]]
        behind = at + 1 + len(form[0])
        call = [line[at:behind]]
        at = behind
        while len(call) <= len(form[1]):
            behind = at + 1 + line[at]
            call.append(line[at + 1:behind])
            at = behind
        calls.append(call)
    return calls


def has_form(call):
    """Whether the call has a place that is told, and as many arguments and rows as that place wants."""
    if len(call) == 0 or len(call[0]) == 0:
        return False
    place = call[0][0]
    if place < 0 or place >= len(FORMS):
        return False
    form = FORMS[place]
    return len(call[0]) == 1 + len(form[0]) and len(call) == 1 + len(form[1])


def is_in_range(call):
    """Whether the numbers of a call that has its form are in their ranges, and its rows as long as told."""
    form = FORMS[call[0][0]]
    if not are_within(call[0][1:], form[0]):
        return False
    for row, row_form in zip(call[1:], form[1]):
        if len(row) not in row_form[0] or not are_within(row, row_form[1]):
            return False
    return True


def are_within(numbers, ranges):
    """Whether each number is in its range; the ranges begin again when all have had their turn."""
    for index, number in enumerate(numbers):
        bounds = ranges[index % len(ranges)]
        if number < bounds[0] or number > bounds[1]:
            return False
    return True
