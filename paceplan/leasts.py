"""The least plan of a sheet with its prices, or with the mixtures of a few speeds [27]."""

from paceplan.dealing import least_plan
from paceplan.mixtures import few_table, mixture
from paceplan.plans import speeds_of
from paceplan.prices import plain_prices
from paceplan.rules import ask_greatest
from paceplan.stretches import layer_density, layers
from paceplan.works import drawn_in


def layered_speeds(works):
    """For each work the density of the layer in which it stands."""
    speeds = {}
    for layer in layers(works):
        speed = layer_density(works, layer)
        for number in layer[1]:
            speeds[number] = speed
    return tuple([speeds[number] for number in range(len(works))])


def least_told(sheet, rule):
    """The least plan of a sheet and prices for its drawn in works; or NoRoom, NoSpeed."""
    prices = plain_prices(rule, layered_speeds(drawn_in(sheet)))
    return (least_plan(sheet), prices)


def few_told(sheet, rule, speeds):
    """The least plan of a sheet and for each turn the mixture of a few speeds; or NoRoom, NoSpeed."""
    plan = least_plan(sheet)
    table = few_table(rule, speeds)
    paces = speeds_of(plan)
    ask_greatest(table, paces)
    return (plan, tuple([mixture(table, pace) for pace in paces]))
