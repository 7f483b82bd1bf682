"""A house: men in their sets, and the posts that some of them have."""

from agegrade.errors import BadPosts, Dead, Filled, NoMan, NoPost, NoSet, NotFathering
from agegrade.errors import NotWaiting, NoYear, Posted, Vacant, WrongGrade
from agegrade.feasts import Feasts

MOST_POSTS = 20
OLDEST_STRANGER = 200


class House:
    """The men and posts of one house under a rule; men and posts are numbered from 0 on."""

    def __init__(self, rule, posts):
        if len(posts) > MOST_POSTS:
            raise BadPosts(f"a house has at most {MOST_POSTS} posts, not {len(posts)}")
        for grade in posts:
            if not 0 <= grade < rule.grades():
                raise BadPosts(f"no post belongs to grade {grade}")
        self.law = rule
        self.clock = Feasts(rule)
        self.post_grades = list(posts)
        self.holders = [None for grade in posts]
        self.sets = []
        self.births = []
        self.parents = []
        self.living = []

    def wait(self, years):
        """Let years go by."""
        self.clock.wait(years)

    def hold(self):
        """Hold a feast; tell the pairs of post and man that are parted by it."""
        self.clock.hold()
        parted = [
            (post, man)
            for post, man in enumerate(self.holders)
            if man is not None and self.grade_of(man) != self.post_grades[post]
        ]
        for post, man in parted:
            self.holders[post] = None
        return parted

    def admit(self, set_number, born):
        """Admit a stranger; tell his number."""
        stood = self.set_stood(set_number)
        soon = -self.law.gap <= stood < 0
        if not soon and self.law.grade_at(stood) is None:
            raise NoSet(f"nobody is admitted into set {set_number}")
        if not self.year() - OLDEST_STRANGER <= born <= self.year():
            raise NoYear(f"no stranger of now was born in year {born}")
        return self.enter(set_number, born, None)

    def bear(self, father):
        """Let a son be born now; tell his number."""
        self.check_man(father)
        self.check_living(father)
        self.check_fathering(father)
        return self.enter(self.sons_set(father), self.year(), father)

    def adopt(self, boy, father):
        """Make a waiting boy the son of this father."""
        self.check_man(boy)
        self.check_man(father)
        self.check_living(boy)
        self.check_living(father)
        if self.stage(boy) != "waiting":
            raise NotWaiting(f"the set of man {boy} has opened")
        self.check_fathering(father)
        self.parents[boy] = father
        self.sets[boy] = self.sons_set(father)

    def die(self, man):
        """Let a man die; tell the post that he leaves, or None."""
        self.check_man(man)
        self.check_living(man)
        post = self.post_of(man)
        if post is not None:
            self.holders[post] = None
        self.living[man] = False
        return post

    def appoint(self, post, man):
        """Give a post to a man."""
        self.check_post(post)
        self.check_man(man)
        self.check_living(man)
        if self.grade_of(man) != self.post_grades[post]:
            raise WrongGrade(f"man {man} is not in grade {self.post_grades[post]}")
        if self.post_of(man) is not None:
            raise Posted(f"man {man} has post {self.post_of(man)}")
        if self.holders[post] is not None:
            raise Filled(f"man {self.holders[post]} has post {post}")
        self.holders[post] = man

    def resign(self, post):
        """Give a post back; tell the man who had it."""
        self.check_post(post)
        man = self.holders[post]
        if man is None:
            raise Vacant(f"nobody has post {post}")
        self.holders[post] = None
        return man

    def rule(self):
        """The rule of the house."""
        return self.law

    def posts(self):
        """The grade of each post."""
        return list(self.post_grades)

    def year(self):
        """The year now."""
        return self.clock.year()

    def latest(self):
        """The latest feast's number."""
        return self.clock.latest()

    def held(self, feast):
        """The year of a feast that was held."""
        return self.clock.held(feast)

    def window(self, feast):
        """The earliest and the latest year in which a feast to come can be held."""
        return self.clock.window(feast)

    def many(self):
        """How many men came."""
        return len(self.sets)

    def set_of(self, man):
        """The number of a man's set."""
        self.check_man(man)
        return self.sets[man]

    def born(self, man):
        """A man's year of birth."""
        self.check_man(man)
        return self.births[man]

    def father_of(self, man):
        """A man's father, or None."""
        self.check_man(man)
        return self.parents[man]

    def alive(self, man):
        """Whether a man lives."""
        self.check_man(man)
        return self.living[man]

    def stood(self, man):
        """How many feasts a man's set has stood; below 0 ahead of its opening."""
        return self.set_stood(self.set_of(man))

    def stage(self, man):
        """Whether a man's set is waiting, standing or past."""
        stood = self.stood(man)
        if stood < 0:
            return "waiting"
        if stood < self.law.span():
            return "standing"
        return "past"

    def grade_of(self, man):
        """The grade of a man's set, or None."""
        return self.law.grade_at(self.stood(man))

    def name_of(self, man):
        """The name of a man's set."""
        return self.set_of(man) % self.law.names

    def sons_of(self, man):
        """The sons of a man, lesser numbers first."""
        self.check_man(man)
        return [son for son, father in enumerate(self.parents) if father == man]

    def post_of(self, man):
        """The post that a man has, or None."""
        self.check_man(man)
        for post, who in enumerate(self.holders):
            if who == man:
                return post
        return None

    def holder(self, post):
        """The man who has a post, or None."""
        self.check_post(post)
        return self.holders[post]

    def twin(self):
        """Another House that stands alike and goes its own way."""
        other = House(self.law, self.post_grades)
        other.clock = self.clock.twin()
        other.holders = list(self.holders)
        other.sets = list(self.sets)
        other.births = list(self.births)
        other.parents = list(self.parents)
        other.living = list(self.living)
        return other

    def set_stood(self, set_number):
        """How many feasts a set has stood."""
        return self.latest() - set_number

    def sons_set(self, father):
        """The set of a man's sons."""
        return self.sets[father] + self.law.gap

    def enter(self, set_number, born, father):
        """Write a new man down; tell his number."""
        self.sets.append(set_number)
        self.births.append(born)
        self.parents.append(father)
        self.living.append(True)
        return len(self.sets) - 1

    def check_man(self, man):
        """Refuse a man who is not there."""
        if not 0 <= man < len(self.sets):
            raise NoMan(f"there is no man {man}")

    def check_living(self, man):
        """Refuse a dead man."""
        if not self.living[man]:
            raise Dead(f"man {man} is dead")

    def check_fathering(self, man):
        """Refuse a man who can't have sons now."""
        if not self.law.fathering(self.stood(man)):
            raise NotFathering(f"man {man} is in no grade in which men father sons")

    def check_post(self, post):
        """Refuse a post that is not there."""
        if not 0 <= post < len(self.post_grades):
            raise NoPost(f"there is no post {post}")
