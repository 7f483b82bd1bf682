"""Calendars of the feasts to come that meet wishes, or the wishes that clash."""

from agegrade.errors import BadWish, BadYears

LAST_FEAST = 200


def check_wish(wish):
    """Refuse a wish for a feast too near or too far, or for no year."""
    feast, first, last = wish
    if not 1 <= feast <= LAST_FEAST:
        raise BadWish(f"wishes are for the feasts 1 to {LAST_FEAST}, not for {feast}")
    if first > last:
        raise BadWish(f"no year is from {first} to {last}")


def narrowed(wishes, feast, low, high):
    """Both edges of a feast's years, with the wishes for it; an edge is a year and the place of the wish behind it."""
    for place, (wished, first, last) in enumerate(wishes):
        if wished == feast and first > low[0]:
            low = (first, place)
        if wished == feast and last < high[0]:
            high = (last, place)
    return (low, high)


def edges_of(rule, since, wishes):
    """The edges of each feast's years by what comes ahead of it, up to a feast for which no year is left."""
    told = []
    # With least years more this is the next feast's: the greater one of since and least.
    low = (max(since - rule.least, 0), None)
    high = (0, None)
    for feast in range(1, max([wish[0] for wish in wishes], default=0) + 1):
        # An edge keeps its wish while it is carried on, so that a clash can name it.
        low = (low[0] + rule.least, low[1])
        high = (high[0] + rule.most, high[1])
        low, high = narrowed(wishes, feast, low, high)
        told.append((low, high))
        if low[0] > high[0]:
            break
    return told


def calendar_in(rule, edges):
    """A calendar within the edges, each feast as early as the one behind it lets."""
    years = []
    for low, high in reversed(edges):
        if years:
            years.append(max(low[0], years[-1] - rule.most))
        else:
            years.append(low[0])
    return years[::-1]


def planned(rule, since, wishes):
    """Either ("calendar", years) that meets all wishes, or ("clash", place, place)."""
    if not 0 <= since <= rule.most:
        raise BadYears(f"{since} years can't have gone since the latest feast")
    for wish in wishes:
        check_wish(wish)
    edges = edges_of(rule, since, wishes)
    if edges:
        low, high = edges[-1]
        # Only the last feast can have no year left, and then no calendar keeps both its edges.
        if low[0] > high[0]:
            return ("clash", low[1], high[1])
    return ("calendar", calendar_in(rule, edges))
