"""The cheapest standing of a number, and the table by which nobody can do with less."""

from beadframe.errors import TooGreat
from beadframe.layouts import BASE, LOWER, UPPER, count_of, full_worth


def cheapest_of(frame, standing, number, price):
    table = table_of(frame, standing, number, price)
    if table[0][number] is None:
        raise TooGreat(len(frame) - 1)
    chosen = []
    left = number
    for rod, layout in enumerate(frame):
        rod_standing = least_offer(layout, standing[rod], price, left, table[rod + 1])
        chosen.append(rod_standing)
        left = left_behind(layout, left, count_of(layout, rod_standing))
    return chosen


# of offers with one price the least standing is chosen: min compares the tuples so
def least_offer(layout, rod_standing, price, left, behind):
    counts = fitting_counts(layout, left)
    offers = []
    for offered in rod_standings(layout):
        count = count_of(layout, offered)
        rest = behind[left_behind(layout, left, count)] if count in counts else None
        if rest is not None:
            offers.append((price.rod_price(rod_standing, offered) + rest, offered))
    return min(offers)[1]


def table_of(frame, standing, number, price):
    keys = keys_of(frame, number)
    values = values_behind(keys[len(frame)])
    table = [values]
    for rod in range(len(frame) - 1, -1, -1):
        costs = count_costs(frame[rod], standing[rod], price)
        values = values_at(frame[rod], keys[rod], costs, values)
        table.append(values)
    return list(reversed(table))


# the keys are found from rod 0 on, the values from the last rod back
def keys_of(frame, number):
    reached = [number]
    keys = [reached]
    for layout in frame:
        reached = keys_behind(layout, reached)
        keys.append(reached)
    return keys


def keys_behind(layout, keys):
    found = {}
    for key in keys:
        for count in fitting_counts(layout, key):
            found[left_behind(layout, key, count)] = True
    return sorted(found)


def values_behind(keys):
    values = {}
    for key in keys:
        values[key] = 0 if key == 0 else None
    return values


def values_at(layout, keys, costs, behind):
    values = {}
    for key in keys:
        values[key] = least_value(layout, key, costs, behind)
    return values


def least_value(layout, key, costs, behind):
    least = None
    for count in fitting_counts(layout, key):
        rest = behind[left_behind(layout, key, count)]
        if rest is not None and (least is None or costs[count] + rest < least):
            least = costs[count] + rest
    return least


# what each count of a rod costs at least; several of its standings may count alike
def count_costs(layout, rod_standing, price):
    costs = {}
    for offered in rod_standings(layout):
        count = count_of(layout, offered)
        cost = price.rod_price(rod_standing, offered)
        costs[count] = min(cost, costs.get(count, cost))
    return costs


# a rod can have every count up to its full worth: a layout has lower beads enough between its upper ones
def fitting_counts(layout, number):
    base = layout[BASE]
    return list(range(number % base, min(number, full_worth(layout)) + 1, base))


def left_behind(layout, number, count):
    return (number - count) // layout[BASE]


def rod_standings(layout):
    standings = []
    for high in range(layout[UPPER] + 1):
        standings.extend([(high, low) for low in range(layout[LOWER] + 1)])
    return standings
