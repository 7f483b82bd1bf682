"""The ages at which men enter their sets, and whether the feasts to come can keep to given ones."""

from agegrade.errors import BadAges
from agegrade.muster import living_men
from agegrade.plans import planned


def check_ages(young, old):
    """Refuse two ages of which the first is the greater one."""
    if young > old:
        raise BadAges(f"no age is from {young} to {old}")


def entry(house, man):
    """The year in which a man's set opened, or None where that is not known."""
    set_number = house.set_of(man)
    if 0 <= set_number <= house.latest():
        return house.held(set_number)
    return None


def entry_age(house, man):
    """A man's age when his set opened, below 0 where he was born later; None where that is not known."""
    year = entry(house, man)
    if year is None:
        return None
    return year - house.born(man)


def misfits(house, young, old):
    """All men, the dead too, whose entry age is known and not from young to old."""
    check_ages(young, old)
    told = []
    for man in range(house.many()):
        age = entry_age(house, man)
        if age is not None and not young <= age <= old:
            told.append(man)
    return told


def wish_of(house, man, young, old):
    """The wish that a waiting man's set opens while he is of such an age."""
    # Wishes count the feasts and the years from the latest feast on.
    born = house.born(man) - house.held(house.latest())
    return (-house.stood(man), born + young, born + old)


def man_at(men, place):
    """The man at a place of the list; None where there is no place."""
    if place is None:
        return None
    return men[place]


def outlook(house, young, old):
    """Either ("calendar", years) by which all living who wait enter at such ages, or ("clash", man, man)."""
    check_ages(young, old)
    men = [man for man in living_men(house) if house.stage(man) == "waiting"]
    wishes = [wish_of(house, man, young, old) for man in men]
    since = house.year() - house.held(house.latest())
    told = planned(house.rule(), since, wishes)
    if told[0] == "clash":
        return ("clash", man_at(men, told[1]), man_at(men, told[2]))
    return told
