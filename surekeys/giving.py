"""Giving each row a target of its own such that all together they pay the least, and prices that show that it is.

What the rows pay for the targets is given as a list with a dict for each row.
"""


def cheapest_targets(costs):
    """A list with a target for each row, all different, for which the rows pay the least, or None."""
    owners = {}
    for i in range(len(costs)):
        steps = cheapest_steps(costs, owners, i)
        if steps is None:
            return None
        for j, target in steps:
            owners[target] = j
    given = {owners[target]: target for target in owners}
    return [given[i] for i in range(len(costs))]


def cheapest_steps(costs, owners, i):
    """Tuples (row, target) by which row i is given a target and each owner of a target another one, or None.

    These steps add the least to what is paid: each row that gives its target away is reached in the cheapest way first.
    """
    ways = ways_to_rows(costs, owners, i)
    ends = []
    for j in ways:
        paid, steps = ways[j]
        ends.extend([(paid + costs[j][target], steps + ((j, target),)) for target in costs[j] if target not in owners])
    if not ends:
        return None
    _, found = min(ends)
    return found


def ways_to_rows(costs, owners, i):
    """A dict with a tuple (paid, steps) for each row whose target can be taken for row i: the cheapest way to it."""
    ways = {i: (0, ())}
    shortened = True
    while shortened:
        shortened = False
        for j in list(ways):
            paid, steps = ways[j]
            for target in [key for key in costs[j] if owners.get(key, j) != j]:
                owner = owners[target]
                # What the owner paid for the target is saved.
                added = paid + costs[j][target] - costs[owner][target]
                if owner not in ways or added < ways[owner][0]:
                    ways[owner] = (added, steps + ((j, target),))
                    shortened = True
    return ways


def least_prices(costs, given):
    """A list with the price of the target of each row, so that no row would rather pay for another one's target.

    The prices start from 0 and are raised only where they have to be, so they are the least ones.
    """
    prices = [0 for _ in given]
    raised = True
    while raised:
        raised = False
        for i, target in enumerate(given):
            for j, row_costs in enumerate(costs):
                if target in row_costs:
                    needed = row_costs[given[j]] + prices[j] - row_costs[target]
                    if needed > prices[i]:
                        prices[i] = needed
                        raised = True
    return prices
