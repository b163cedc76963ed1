"""The fewest signs along a ladder, and the paths that show that there are no fewer.

The values that have costs are a tree: above each one lies its value at the next level that has costs, above the
topmost ones lies the outside. Summed from the outside down to a value, right signs come to 1 at a picked finest
value and to 0 at any other one. A sign stands where this sum changes, so the fewest signs are a least cut of the
tree between the picked finest values and the others with the outside, and the paths are a greatest flow.
"""

from cubebook.ladders import lifts, values_at

# Stands above the topmost values; no pair of a level and a value is like it.
OUTSIDE = None


def cost_levels(costs):
    return sorted(set([level for level, value in costs]))


# Pairs are the keys (level, value) of the costs. All that lie beneath a pair come ahead of it: a walk over the pairs
# goes up the tree, a reversed one goes down.
def pairs_above(ladder, costs):
    above = {}
    levels = cost_levels(costs)
    for place, level in enumerate(levels):
        if place + 1 < len(levels):
            upper = levels[place + 1]
            lift = lifts(ladder, level, upper)
            for value in values_at(ladder, level):
                above[(level, value)] = (upper, lift[value])
        else:
            for value in values_at(ladder, level):
                above[(level, value)] = OUTSIDE
    return above


def is_finest(pair):
    return pair[0] == 0


# A pair has a sign where its sum is not that of the pair above it. Between 0 and 1 no other sum costs less.
def least_sum(pair, upper_sum, beneath_costs, costs, chosen):
    if is_finest(pair):
        return 1 if pair[1] in chosen else 0
    other = 1 - upper_sum
    spared = beneath_costs[pair][upper_sum] - beneath_costs[pair][other]
    return other if spared > costs[pair] else upper_sum


# There are two costs for each pair, where its sum is 0 and where it is 1: which is better hangs on what lies above.
def costs_beneath(above, costs, chosen):
    beneath_costs = {}
    for pair in above:
        upper_costs = beneath_costs.setdefault(above[pair], [0, 0])
        for upper_sum in (0, 1):
            own_sum = least_sum(pair, upper_sum, beneath_costs, costs, chosen)
            if own_sum != upper_sum:
                upper_costs[upper_sum] += costs[pair]
            if not is_finest(pair):
                upper_costs[upper_sum] += beneath_costs[pair][own_sum]
    return beneath_costs


def fewest(ladder, costs, picked):
    above = pairs_above(ladder, costs)
    chosen = dict([(value, True) for value in picked])
    beneath_costs = costs_beneath(above, costs, chosen)
    sums = {OUTSIDE: 0}
    signs = []
    for pair in reversed(list(above)):
        upper_sum = sums[above[pair]]
        sums[pair] = least_sum(pair, upper_sum, beneath_costs, costs, chosen)
        if sums[pair] != upper_sum:
            signs.append((sums[pair] - upper_sum, pair[0], pair[1]))
    return signs


# Ends are tuples (finest value, times): from where, or to where, paths may still go, and how often.
def ends_within(ends, cost):
    let = []
    left = cost
    for value, times in ends:
        through = min(times, left)
        if through > 0:
            let.append((value, through))
            left = left - through
    return let


# Any end of one side may meet any of the other, so at last one of the sides has nothing left.
def paths_between(ones, others):
    paths = []
    place = 0
    used = 0
    for one, times in ones:
        left = times
        while left > 0 and place < len(others):
            through = min(left, others[place][1] - used)
            paths.append((one, others[place][0], through))
            left = left - through
            used = used + through
            if used == others[place][1]:
                place = place + 1
                used = 0
    return paths


def times_of(ends):
    return sum([times for value, times in ends])


# The first ones go first, as they do in paths_between.
def ends_behind(ends, many):
    left = []
    taken = many
    for value, times in ends:
        gone = min(times, taken)
        taken = taken - gone
        if times > gone:
            left.append((value, times - gone))
    return left


# Two ends that can meet beneath a value never need to go through it, so each pair hands up only what could not meet.
def fewest_paths(ladder, costs, picked):
    above = pairs_above(ladder, costs)
    chosen = dict([(value, True) for value in picked])
    ones = {OUTSIDE: []}
    others = {OUTSIDE: []}
    paths = []
    for pair in above:
        if is_finest(pair):
            end = [(pair[1], costs[pair])]
            ones[pair] = end if pair[1] in chosen else []
            others[pair] = [] if pair[1] in chosen else end
        paths.extend(paths_between(ones[pair], others[pair]))
        met = min(times_of(ones[pair]), times_of(others[pair]))
        upper = above[pair]
        ones.setdefault(upper, []).extend(ends_within(ends_behind(ones[pair], met), costs[pair]))
        others.setdefault(upper, []).extend(ends_within(ends_behind(others[pair], met), costs[pair]))
    return paths + [(one, None, times) for one, times in ones[OUTSIDE]]
