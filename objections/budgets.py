"""Lots that are held by a budget for what is overheard."""

from objections.checks import is_number
from objections.debates import full_mask, place_of
from objections.errors import BadNumber
from objections.lots import lots_at
from objections.masks import count_of, topmost
from objections.prices import check_weights, overheard_at, weight_of_all


def held_prices(debate, weights):
    """The pairs of the price of each lot, as a held one, and its mask."""
    lots = list(range(full_mask(debate) + 1))
    return [(weight_of_all(weights, overheard_at(debate, "held", lot)), lot) for lot in lots]


def check_budget(budget):
    """BadNumber for any object that is no integer from 0 on."""
    if not is_number(budget):
        raise BadNumber(budget)


def greatest_by(debate, weights, budget):
    """The ascending list of the lots that are held by a budget, and within no other one that is."""
    check_weights(debate, weights)
    check_budget(budget)
    return lots_at(debate, topmost([lot for price, lot in held_prices(debate, weights) if price <= budget]))


def budget_table(debate, weights):
    """The list of the pairs of a budget and the greatest lots by it, where these are others than by less."""
    check_weights(debate, weights)
    by_price = {}
    for price, lot in held_prices(debate, weights):
        by_price[price] = by_price.get(price, []) + [lot]
    table = []
    tops = []
    for price in sorted(by_price):
        grown = topmost(tops + by_price[price])
        if sorted(grown) != sorted(tops):
            table.append((price, lots_at(debate, grown)))
        tops = grown
    return table


def prices_with(debate, weights, statement):
    """The pairs of prices and masks of the lots with a statement."""
    check_weights(debate, weights)
    place = place_of(debate, statement)
    return [(price, lot) for price, lot in held_prices(debate, weights) if lot >> place & 1]


def least_budget(debate, weights, statement):
    """The least budget by which some lot with a statement is held."""
    return min([price for price, _ in prices_with(debate, weights, statement)])


def cheapest_lot(debate, weights, statement):
    """The first lot with a statement that is held by that budget."""
    rows = prices_with(debate, weights, statement)
    least = min([price for price, _ in rows])
    return lots_at(debate, [lot for price, lot in rows if price == least])[0]


def most_for(debate, weights, statement, budget):
    """The greatest number of statements in a lot with this one that is held by a budget, None if there is none."""
    rows = prices_with(debate, weights, statement)
    check_budget(budget)
    return max([count_of(lot) for price, lot in rows if price <= budget], default=None)
