"""The calls pool and unpool, and what is at hand for a member."""

from milehouse.refusals import FULL, NO_MEMBER, WRONG_POOL

MOST_POOLS = 8


def make_pool(house, poolers):
    """Promise 5."""
    if any([pooler not in house.members for pooler in poolers]):
        return [NO_MEMBER]
    if len(set(poolers)) < len(poolers):
        return [WRONG_POOL]
    if any([pool_of(house, pooler) is not None for pooler in poolers]):
        return [WRONG_POOL]
    if len(house.pools) >= MOST_POOLS:
        return [FULL]
    house.pools.append(list(poolers))
    return [0]


def end_pool(house, pooler):
    """Promise 6."""
    ended = pool_of(house, pooler)
    if ended is None:
        return [WRONG_POOL]
    house.pools.remove(ended)
    return [0]


def pool_of(house, pooler):
    """The pool that has this id, or None."""
    for pool in house.pools:
        if pooler in pool:
            return pool
    return None


def at_hand(house, asker):
    """The holdings at hand for a member, pairs of a member's id and lots, in the order of the pool."""
    pool = pool_of(house, asker)
    owners = [asker] if pool is None else pool
    return [(owner, house.members[owner].lots) for owner in owners]
