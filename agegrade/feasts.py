"""The years and the feasts that are held in them."""

from agegrade.errors import BadYears, NoFeast, NoYear, Overdue, TooSoon


class Feasts:
    """The feasts under a rule, from feast 0 in year 0 on."""

    def __init__(self, rule):
        self.law = rule
        self.now = 0
        self.feast_years = [0]

    def year(self):
        """The year now."""
        return self.now

    def latest(self):
        """The latest feast's number."""
        return len(self.feast_years) - 1

    def held(self, feast):
        """The year of a feast that was held."""
        if not 0 <= feast <= self.latest():
            raise NoFeast(f"feast {feast} was not held")
        return self.feast_years[feast]

    def by_year(self, year):
        """The number of the latest feast held in this year or ahead of it."""
        if not 0 <= year <= self.now:
            raise NoYear(f"year {year} is not from 0 to {self.now}")
        feast = self.latest()
        while self.feast_years[feast] > year:
            feast -= 1
        return feast

    def window(self, feast):
        """The earliest and the latest year in which a feast to come can be held."""
        further = feast - self.latest() - 1
        if further < 0:
            raise NoFeast(f"feast {feast} is not to come")
        last = self.feast_years[-1]
        earliest = max(self.now, last + self.law.least)
        latest = last + self.law.most
        return (earliest + further * self.law.least, latest + further * self.law.most)

    def wait(self, years):
        """Let years go by."""
        if years < 0:
            raise BadYears(f"nobody waits {years} years")
        if self.now + years > self.feast_years[-1] + self.law.most:
            raise Overdue(f"feast {self.latest() + 1} must be held within the {years} years")
        self.now += years

    def hold(self):
        """Hold the next feast in the year now."""
        gone = self.now - self.feast_years[-1]
        if gone < self.law.least:
            raise TooSoon(f"only {gone} years have gone since feast {self.latest()}")
        self.feast_years.append(self.now)

    def twin(self):
        """Another Feasts that stands alike and goes its own way."""
        other = Feasts(self.law)
        other.now = self.now
        other.feast_years = list(self.feast_years)
        return other
