"""Amounts: tuples of numbers, for each store one."""


def plus(one, other):
    """Both amounts together."""
    return tuple([here + there for here, there in zip(one, other)])


def less(one, other):
    """What is left of the one without the other; below 0 where there is too little."""
    return tuple([here - there for here, there in zip(one, other)])


def larger(one, other):
    """Of each store the larger number of both."""
    return tuple([max(here, there) for here, there in zip(one, other)])


def with_store(amount, store, many):
    """The amount with another number in the place of one store's."""
    return amount[:store] + (many,) + amount[store + 1:]


def within(one, other):
    """Whether the one is no more than the other, of each store."""
    return all([here <= there for here, there in zip(one, other)])


def least_ones(amounts, most):
    """Those of the amounts within `most` that no other one of them is within."""
    found = []
    # An amount that is within another one is ahead of it in this order.
    for amount in sorted(set(amounts)):
        if within(amount, most) and not any([within(ahead, amount) for ahead in found]):
            found.append(amount)
    return found
