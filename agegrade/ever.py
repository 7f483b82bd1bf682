"""What holds of the entry ages of sons in all houses of a rule."""

from agegrade.beats import fathering_feasts, hold_feasts
from agegrade.house import House


def reach(rule, second):
    """How many feasts lie between a bound's birth and entry (below 0: the entry goes ahead), and the years of each."""
    begins, ends = fathering_feasts(rule)
    if second:
        # The oldest son is born right behind the first feast at which his father's set may have sons.
        feasts = rule.gap - begins
        return (feasts, rule.most if feasts > 0 else rule.least)
    # The youngest son is born in the very year of the feast that ends it for his father's set, ahead of that feast.
    feasts = rule.gap - ends
    return (feasts, rule.least if feasts > 0 else rule.most)


def bounds(rule):
    """The least and the greatest entry age that a son who is born and not adopted can have."""
    youngest, lower_pace = reach(rule, False)
    oldest, upper_pace = reach(rule, True)
    return (youngest * lower_pace, oldest * upper_pace)


def extreme(rule, second):
    """A house, and the number of a son in it whose entry age is the second bound, or the first one."""
    begins, ends = fathering_feasts(rule)
    stood = begins if second else ends - 1
    waits = rule.gap - stood
    pace = reach(rule, second)[1]
    house = House(rule, [])
    # Where his set is to open ahead of his birth, it must be none of the sets below 0.
    hold_feasts(house, -waits, pace)
    father = house.admit(house.latest() - stood, house.year())
    if not second:
        house.wait(pace)
    son = house.bear(father)
    hold_feasts(house, waits, pace)
    return (house, son)
