"""A search through all standings of small towns, deed by deed, by which answers are checked."""

import itertools

from tests.walks import ends_of, place_at


def all_standings(town, names):
    """All standings of the town with walkers of these names."""
    at = [[end for end in ends_of(town) if place_at(town, end) == place] for place in range(town[0])]
    for posts in itertools.product(*at):
        for faces in itertools.product(ends_of(town), repeat=len(names)):
            yield frozen((list(posts), list(zip(names, faces))))


def frozen(standing):
    """The standing as a key."""
    return (tuple(standing[0]), tuple(standing[1]))


def thawed(key):
    return (list(key[0]), list(key[1]))


def deed_done(town, key, word, name):
    """The key of the standing behind the deed."""
    posts, walkers = key
    faces = dict(walkers)
    road, side = faces[name]
    if word == "step":
        place = town[1][road][side]
        out_road, out_side = posts[place]
        posts = posts[:place] + ((road, side),) + posts[place + 1:]
        road, side = out_road, out_side
    faces[name] = (road, 1 - side)
    return (posts, tuple(sorted(faces.items())))


def come_to(town, key, goers, abouts=True):
    """The keys of all standings to which rows of these goers' deeds lead."""
    words = ("step", "about") if abouts else ("step",)
    found = {key}
    waiting = [key]
    while waiting:
        last = waiting.pop()
        for name in goers:
            for word in words:
                behind = deed_done(town, last, word, name)
                if behind not in found:
                    found.add(behind)
                    waiting.append(behind)
    return found


def parts_of_all(town, names, goers, abouts):
    """For each standing a number, the same for two where rows of these goers' deeds lead from one to the other.

    A deed can be undone by deeds of the same sorts, by going on with it till all is as it was.
    """
    part_of = {}
    for number, key in enumerate(all_standings(town, names)):
        if key not in part_of:
            for each in come_to(town, key, goers, abouts):
                part_of[each] = number
    return part_of


def abouts_to(town, key, goers):
    """For each standing to which rows of these goers' deeds lead, how many abouts it takes at the least."""
    least = {key: 0}
    level, many = [key], 0
    while level:
        waiting = list(level)
        while waiting:
            last = waiting.pop()
            for behind in [deed_done(town, last, "step", name) for name in goers]:
                if behind not in least:
                    least[behind] = many
                    waiting.append(behind)
                    level.append(behind)
        many += 1
        turned = [deed_done(town, last, "about", name) for last in level for name in goers]
        level = []
        for behind in turned:
            if behind not in least:
                least[behind] = many
                level.append(behind)
    return least
