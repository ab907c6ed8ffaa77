"""Towns and standings to try, made by a fixed rule, and a second way to walk them."""

import random


def ends_of(town):
    return [(r, s) for r in range(len(town[1])) for s in (0, 1)]


def place_at(town, end):
    return town[1][end[0]][end[1]]


def some_town(chance, most_places=8, most_roads=16):
    many = chance.randint(1, min(most_places, 2 * most_roads))
    while True:
        roads = [(chance.randrange(many), chance.randrange(many))
                 for _ in range(chance.randint((many + 1) // 2, most_roads))]
        if {place for road in roads for place in road} == set(range(many)):
            return (many, roads)


def some_standing(chance, town, names=("a", "ab", "kurt", "zzzzzzzz")):
    ends = ends_of(town)
    posts = [chance.choice([end for end in ends if place_at(town, end) == place]) for place in range(town[0])]
    lot = sorted(chance.sample(names, chance.randint(0, len(names))))
    return (posts, [(name, chance.choice(ends)) for name in lot])


def some_row(chance, standing, most):
    names = [name for name, _ in standing[1]]
    if not names:
        return []
    return [(chance.choice(("step", "step", "about")), chance.choice(names)) for _ in range(chance.randint(0, most))]


def walked(town, standing, row):
    """All standings that the row leads to, one by one, the first one too."""
    passed = [standing]
    for word, name in row:
        posts, walkers = passed[-1]
        (faced,) = [end for other, end in walkers if other == name]
        place = place_at(town, faced)
        if word == "step":
            exit_road, exit_side = posts[place]
            posts = posts[:place] + [faced] + posts[place + 1:]
        else:
            exit_road, exit_side = faced
        goes = (exit_road, {0: 1, 1: 0}[exit_side])
        passed.append((posts, [(other, goes if other == name else end) for other, end in walkers]))
    return passed


def trials(many, seed, most_row=30):
    chance = random.Random(seed)
    for _ in range(many):
        town = some_town(chance)
        standing = some_standing(chance, town)
        yield town, standing, some_row(chance, standing, most_row)
