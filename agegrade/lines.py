"""The lines of a house: whom a man comes from, and who comes from him."""


def fathers(house, man):
    """The man himself, his father, that one's father, and so on."""
    line = [man]
    father = house.father_of(man)
    while father is not None:
        line.append(father)
        father = house.father_of(father)
    return line


def below(house, man):
    """All men who have this one among their fathers, he himself too."""
    # To ask for his father refuses a man who is not there; else his line would be told as empty.
    house.father_of(man)
    return [other for other in range(house.many()) if man in fathers(house, other)]


def meeting(house, man, other):
    """The nearest man in both men's lines, and the steps to him from each; None where there is none."""
    others = fathers(house, other)
    for steps, father in enumerate(fathers(house, man)):
        if father in others:
            return (father, steps, others.index(father))
    return None
