"""The ring of names: how they go on from fathers to sons."""

from agegrade.errors import BadMany

MOST_GENERATIONS = 200


def classes(rule):
    """The greatest number that divides the rule's gap and its count of names."""
    divisor = rule.gap
    rest = rule.names
    while rest > 0:
        divisor, rest = rest, divisor % rest
    return divisor


def ring_round(rule):
    """The least count of generations behind which the same name comes again."""
    return rule.names // classes(rule)


def class_of(rule, set_number):
    """The class of a set, which is its sons' sets' class too."""
    return set_number % classes(rule)


def names_of(rule, set_number, many):
    """The names of a set and of its sons' sets, so many generations of them."""
    if not 0 <= many <= MOST_GENERATIONS:
        raise BadMany(f"0 to {MOST_GENERATIONS} names are told, not {many}")
    return [(set_number + step * rule.gap) % rule.names for step in range(many)]
