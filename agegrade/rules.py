"""The rule of a people: its grades, and how sons, feasts and names follow."""

from agegrade.errors import BadRule, NoGrade

MOST_GRADES = 8
LONGEST_STAY = 6
WIDEST_GAP = 60
LONGEST_YEARS = 40
MOST_NAMES = 60


def check_stays(stays):
    """Refuse stays that are bad by themselves."""
    if not 1 <= len(stays) <= MOST_GRADES:
        raise BadRule(f"a rule has 1 to {MOST_GRADES} grades, not {len(stays)}")
    for stay in stays:
        if not 1 <= stay <= LONGEST_STAY:
            raise BadRule(f"a stay is 1 to {LONGEST_STAY} feasts, not {stay}")


class Rule:
    """A rule; it is never changed once it is made."""

    def __init__(self, stays, gap, opens, shuts, least, most, names):
        check_stays(stays)
        if not 1 <= gap <= WIDEST_GAP:
            raise BadRule(f"the gap is 1 to {WIDEST_GAP} sets, not {gap}")
        if not 0 <= opens <= shuts < len(stays):
            raise BadRule(f"men can't father sons in the grades {opens} to {shuts} of {len(stays)}")
        if not 1 <= least <= most <= LONGEST_YEARS:
            raise BadRule(f"feasts can't be {least} to {most} years apart")
        if not 1 <= names <= MOST_NAMES:
            raise BadRule(f"sets bear 1 to {MOST_NAMES} names, not {names}")
        self.lengths = list(stays)
        self.gap = gap
        self.opens = opens
        self.shuts = shuts
        self.least = least
        self.most = most
        self.names = names

    def stays(self):
        """At how many feasts a set stands in each grade."""
        return list(self.lengths)

    def grades(self):
        """The count of grades."""
        return len(self.lengths)

    def span(self):
        """At how many feasts a set stands in all grades together."""
        return sum(self.lengths)

    def begin(self, grade):
        """How many feasts a set has stood when it comes into this grade."""
        if not 0 <= grade < len(self.lengths):
            raise NoGrade(f"there is no grade {grade}")
        return sum(self.lengths[:grade])

    def grade_at(self, stood):
        """The grade of a set that has stood so many feasts, or None."""
        if stood < 0:
            return None
        end = 0
        for grade, stay in enumerate(self.lengths):
            end += stay
            if stood < end:
                return grade
        return None

    def fathering(self, stood):
        """Whether men of a set that has stood so many feasts father sons."""
        grade = self.grade_at(stood)
        return grade is not None and self.opens <= grade <= self.shuts
