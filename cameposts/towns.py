"""Towns and standings: what they are, and what is not so of a thing that is none.

A town is (n, roads), an end (r, s), a standing (posts, walkers).
"""

from cameposts.errors import NoPlace, NoStanding, NoTown

MOST_PLACES = 8
MOST_ROADS = 16
MOST_WALKERS = 4
MOST_LETTERS = 8


# Whatever gets a town and its standings looks at all of these first: the
# shorter way is taken here, with fewer calls of smaller functions.


def is_whole(thing):
    """Tell whether it is a whole number."""
    # For Python True and False are ints, too.
    return isinstance(thing, int) and not isinstance(thing, bool)


def is_below(thing, limit):
    """Tell whether it is a whole number from 0 to limit - 1."""
    return isinstance(thing, int) and not isinstance(thing, bool) and 0 <= thing < limit


def is_pair(thing):
    """Tell whether it is a tuple of two."""
    return isinstance(thing, tuple) and len(thing) == 2


def is_road(thing, many):
    """Tell whether it is a tuple of two of so many places."""
    if not isinstance(thing, tuple) or len(thing) != 2:
        return False
    start, end = thing
    return is_below(start, many) and is_below(end, many)


def is_end(town, thing):
    """Tell whether it is an end of a road of the town."""
    if not isinstance(thing, tuple) or len(thing) != 2:
        return False
    road, side = thing
    return is_below(road, len(town[1])) and is_below(side, 2)


def is_name(thing):
    """Tell whether it is a text that can be a walker's name."""
    if not isinstance(thing, str) or not 1 <= len(thing) <= MOST_LETTERS:
        return False
    return thing.isascii() and thing.isalpha() and thing.islower()


def is_walker(town, thing):
    """Tell whether it is a tuple of a name and an end of the town."""
    return is_pair(thing) and is_name(thing[0]) and is_end(town, thing[1])


def place_of(town, end):
    """Tell the place at which the end is."""
    road, side = end
    return town[1][road][side]


def other_end(end):
    """Tell the other end of the end's road."""
    road, side = end
    return (road, 1 - side)


def gather_ends(roads, place):
    """List the ends of these roads that are at the place, in the order of tuples."""
    return [(road, side) for road in range(len(roads)) for side in range(2) if roads[road][side] == place]


def gather_all_ends(town):
    """List all ends of the town's roads, in the order of tuples."""
    return [(road, side) for road in range(len(town[1])) for side in range(2)]


def town_wrong(thing):
    """Tell None of a town, of anything else the first that is not so."""
    if not is_pair(thing):
        return ("town",)
    many, roads = thing
    if not is_whole(many) or not 1 <= many <= MOST_PLACES:
        return ("places",)
    if not isinstance(roads, list) or not 1 <= len(roads) <= MOST_ROADS:
        return ("roads",)
    for number, road in enumerate(roads):
        if not is_road(road, many):
            return ("road", number)
    met = {place for road in roads for place in road}
    for place in range(many):
        if place not in met:
            return ("bare", place)
    return None


def need_town(town):
    """Refuse what is no town."""
    wrong = town_wrong(town)
    if wrong is not None:
        raise NoTown(wrong)


def need_place(town, place):
    """Refuse what is no place of the town."""
    if not is_below(place, town[0]):
        raise NoPlace("this is no place of the town")


def ends_at(town, place):
    """List the ends at a place of the town, in the order of tuples."""
    need_town(town)
    need_place(town, place)
    return gather_ends(town[1], place)


def posts_wrong(town, posts):
    """Tell the first that is not so of a list as the posts of the town."""
    if len(posts) != town[0]:
        return ("posts",)
    for place, post in enumerate(posts):
        if not is_end(town, post) or place_of(town, post) != place:
            return ("post", place)
    return None


def walkers_wrong(town, walkers):
    """Tell the first that is not so of a list as walkers in the town."""
    if len(walkers) > MOST_WALKERS:
        return ("walkers",)
    ahead = ""
    for number, walker in enumerate(walkers):
        if not is_walker(town, walker) or walker[0] <= ahead:
            return ("walker", number)
        ahead = walker[0]
    return None


def find_standing_wrong(town, thing):
    """Tell None of a standing of what is a town, of anything else the first that is not so."""
    if not is_pair(thing) or not isinstance(thing[0], list) or not isinstance(thing[1], list):
        return ("standing",)
    posts, walkers = thing
    wrong = posts_wrong(town, posts)
    if wrong is not None:
        return wrong
    return walkers_wrong(town, walkers)


def standing_wrong(town, thing):
    """Tell None of a standing of the town, of anything else the first that is not so."""
    need_town(town)
    return find_standing_wrong(town, thing)


def need_standings(town, standings):
    """Refuse what is no town, then, of each in order, what is no standing of it."""
    need_town(town)
    for standing in standings:
        wrong = find_standing_wrong(town, standing)
        if wrong is not None:
            raise NoStanding(wrong)


def need_standing(town, standing):
    """Refuse what is no town, then what is no standing of it."""
    need_standings(town, [standing])
