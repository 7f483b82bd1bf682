"""How entry ages drift from fathers to sons where feasts are held at an even beat."""

from agegrade.beats import fathering_feasts, hold_feasts
from agegrade.errors import BadAges, BadBand, BadBeat, BadMany
from agegrade.house import House

OLDEST_FATHER = 120
OLDEST_ENTRY = 200
MOST_GENERATIONS = 30


def check_beat(rule, beat):
    """Refuse a beat at which the rule lets no feasts be held."""
    if not rule.least <= beat <= rule.most:
        raise BadBeat(f"feasts are {rule.least} to {rule.most} years apart, not {beat}")


def check_terms(rule, beat, young, old):
    """Refuse a beat, or ages of fathers, out of their bounds."""
    check_beat(rule, beat)
    if not 1 <= young <= old <= OLDEST_FATHER:
        raise BadAges(f"men can't father sons at ages from {young} to {old}")


def check_many(many):
    """Refuse a count of generations that is out of its bounds."""
    if not 0 <= many <= MOST_GENERATIONS:
        raise BadMany(f"0 to {MOST_GENERATIONS} generations are told, not {many}")


def next_band(rule, beat, young, old, band):
    """The band of sons of a band, or None."""
    begins, ends = fathering_feasts(rule)
    # Counted from the year of the father's entry: the first and the last year in which his set may have sons.
    soonest = begins * beat
    latest = ends * beat - 1
    first = max(band[0], young - latest)
    last = min(band[1], old - soonest)
    if first > last:
        return None
    # The less the father's entry age, the later he may have a son, and the less that son's entry age.
    opening = rule.gap * beat
    return (opening - min(latest, old - first), opening - max(soonest, young - last))


def sons_band(rule, beat, young, old, band):
    """The least and the greatest entry age of sons of men whose entry ages are in the band, or None."""
    check_terms(rule, beat, young, old)
    if band[0] > band[1]:
        raise BadBand(f"no entry age is from {band[0]} to {band[1]}")
    return next_band(rule, beat, young, old, band)


def bands(rule, beat, young, old, entry_age, many):
    """The band of the entry age alone, and those of so many generations of sons, ending ahead of a None."""
    check_terms(rule, beat, young, old)
    check_many(many)
    told = [(entry_age, entry_age)]
    while len(told) <= many:
        band = next_band(rule, beat, young, old, told[-1])
        if band is None:
            break
        told.append(band)
    return told


def ages_to(rule, beat, young, old, entry_age, goal, many):
    """So many ages, at which a man, his son, and so on have sons, so that the last entry age is the goal; or None."""
    told = bands(rule, beat, young, old, entry_age, many)
    if len(told) <= many or not told[-1][0] <= goal <= told[-1][1]:
        return None
    # Backwards, since from within a band of sons there is always a way back into the band ahead of it.
    ages = []
    son = goal
    for band in reversed(told[:-1]):
        gone = rule.gap * beat - son
        father = max(band[0], young - gone)
        ages.append(father + gone)
        son = father
    return ages[::-1]


def bear_at(house, beat, father, age):
    """Go on to the year in which the father has this age, and let his son be born; tell his number."""
    year = house.born(father) + age
    feast = year // beat
    if age < 1 or not house.rule().fathering(feast - house.set_of(father)):
        raise BadAges(f"man {father} has no son at the age of {age}")
    hold_feasts(house, feast - house.latest(), beat)
    house.wait(year - house.year())
    return house.bear(father)


def played(rule, beat, entry_age, ages):
    """A house in which a man of this entry age, his son, and so on have sons at these ages; and their numbers."""
    check_beat(rule, beat)
    if not 0 <= entry_age <= OLDEST_ENTRY:
        raise BadBand(f"a man is played from an entry age of 0 to {OLDEST_ENTRY}, not {entry_age}")
    house = House(rule, [])
    men = [house.admit(0, -entry_age)]
    for age in ages:
        men.append(bear_at(house, beat, men[-1], age))
    return (house, men)
