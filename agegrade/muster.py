"""Who stands where in a house, and who is to have its vacant posts."""

from agegrade.errors import NoGrade


def living_men(house):
    """The numbers of all who live."""
    return [man for man in range(house.many()) if house.alive(man)]


def men_in(house, grade):
    """The living men in a grade, the earlier born first, of one year the lesser number first."""
    if not 0 <= grade < house.rule().grades():
        raise NoGrade(f"there is no grade {grade}")
    men = [man for man in living_men(house) if house.grade_of(man) == grade]
    return sorted(men, key=lambda man: (house.born(man), man))


def free_men(house, post):
    """The men in a post's grade who have no post."""
    # To ask for the holder refuses a post that is not there; below 0 the list would tell some grade.
    house.holder(post)
    grade = house.posts()[post]
    return [man for man in men_in(house, grade) if house.post_of(man) is None]


def muster(house):
    """How many of the living wait, how many stand in each grade, and how many are past."""
    waiting = 0
    standing = [0 for stay in house.rule().stays()]
    past = 0
    for man in living_men(house):
        grade = house.grade_of(man)
        if grade is not None:
            standing[grade] += 1
        elif house.stage(man) == "waiting":
            waiting += 1
        else:
            past += 1
    return (waiting, standing, past)


def filling(house):
    """The pairs of vacant post and man by which the posts are to be filled."""
    pairs = []
    taken = {}
    for post in range(len(house.posts())):
        if house.holder(post) is not None:
            continue
        left = [man for man in free_men(house, post) if man not in taken]
        if left:
            pairs.append((post, left[0]))
            taken[left[0]] = True
    return pairs


def fill(house):
    """Give the vacant posts to the men of the filling; tell its pairs."""
    pairs = filling(house)
    for post, man in pairs:
        house.appoint(post, man)
    return pairs
