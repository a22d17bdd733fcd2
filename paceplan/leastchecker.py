"""The checker of a plan beside its prices [26], which seeks nothing."""

from paceplan.errors import NoLeast
from paceplan.plans import right_plan
from paceplan.prices import hands_power, price_bound, right_prices
from paceplan.ratios import minus


def least_asked(works, rule, hands, plan, prices):
    """True where any plan and prices are right, and the plan's power is their bound; or it is refused."""
    right_plan((works, ()), plan)
    right_prices(works, rule, prices)
    power = hands_power(rule, hands, plan)
    bound = price_bound(works, rule, hands, prices)
    if power != bound:
        raise NoLeast(minus(power, bound))
    return True
