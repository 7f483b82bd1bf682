"""Feasts held at an even beat, and at which of a set's feasts its men father sons."""


def fathering_feasts(rule):
    """How many feasts a set has stood when its men begin to father sons, and when they have ended."""
    return (rule.begin(rule.opens), rule.begin(rule.shuts) + rule.stays()[rule.shuts])


def hold_feasts(house, many, beat):
    """Hold so many feasts, each one beat years behind the one ahead of it; none where many is below 1."""
    for count in range(many):
        house.wait(house.held(house.latest()) + beat - house.year())
        house.hold()
