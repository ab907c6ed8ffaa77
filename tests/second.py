"""Second ways to find what the program tells: straight from the document's words, however long they take."""

from collections import Counter
from itertools import combinations

from tests.walks import place_at


def roads_held(standing):
    """Each held road as often as it is held."""
    posts, walkers = standing
    return [road for road, _ in posts] + [end[0] for _, end in walkers]


def hang_together(town, roads):
    """Flood over the roads from each place that isn't flooded yet."""
    lots = []
    for start in range(town[0]):
        if any(start in lot for lot in lots):
            continue
        lot = {start}
        while True:
            more = {place for road in roads if set(town[1][road]) & lot for place in town[1][road]}
            if more <= lot:
                break
            lot |= more
        lots.append(sorted(lot))
    return lots


def heaps(town, standing):
    return hang_together(town, roads_held(standing))


def names_of_heap(town, standing, heap):
    return [name for name, end in standing[1] if place_at(town, end) in heap]


def leads(town, posts, place):
    road, side = posts[place]
    return town[1][road][1 - side]


def basins(town, posts):
    found = []
    for lot in hang_together(town, [road for road, _ in posts]):
        ring = []
        for place in lot:
            on = leads(town, posts, place)
            for _ in range(8):
                if on == place:
                    ring.append(place)
                    break
                on = leads(town, posts, on)
        ordered = [min(ring)]
        while len(ordered) < len(ring):
            ordered.append(leads(town, posts, ordered[-1]))
        found.append((ordered, lot))
    return found


def cores(town, standing):
    """The pendant places with their ends, and the roads that are left in heaps with walkers."""
    pendants, left = [], []
    for heap in heaps(town, standing):
        if not names_of_heap(town, standing, heap):
            continue
        roads = [road for road in roads_held(standing) if town[1][road][0] in heap]
        while True:
            ends = [(road, side) for road in roads for side in (0, 1)]
            lone = [(place, end) for place in heap for end in ends if place_at(town, end) == place
                    and len([each for each in ends if place_at(town, each) == place]) == 1]
            if not lone:
                break
            pendants.append(min(lone))
            roads.remove(min(lone)[1][0])
        left += set(roads)
    return pendants, sorted(left)


def clean_heaps(town, standing):
    often = Counter(roads_held(standing))
    return [heap for heap in heaps(town, standing) if names_of_heap(town, standing, heap)
            and all(often[road] < 2 for road in often if town[1][road][0] in heap)]


def line(town, standing, heap):
    """The ends of the heap's line."""
    faces = dict(standing[1])
    return [standing[0][place] for place in heap] + [faces[name] for name in names_of_heap(town, standing, heap)]


def sign(town, standing, heap):
    """The -1s, one by one."""
    ends = line(town, standing, heap)
    product = 1
    for at in range(len(ends)):
        for ahead in range(at):
            if ends[ahead][0] > ends[at][0]:
                product = -product
        if ends[at][1] == (1 if at < len(heap) else 0):
            product = -product
    return product


def exchanges(first, second):
    """How many exchanges of two make the one list of unlike things into the other."""
    first, many = list(first), 0
    for at, wished in enumerate(second):
        if first[at] != wished:
            other = first.index(wished)
            first[at], first[other] = first[other], first[at]
            many += 1
    return many


def one_holding(town, one, other):
    lots = [[names_of_heap(town, standing, heap) for heap in heaps(town, standing)] for standing in (one, other)]
    return sorted(roads_held(one)) == sorted(roads_held(other)) and lots[0] == lots[1]


def view(standing, goers):
    return (standing[0], [walker for walker in standing[1] if walker[0] in goers])


def home(town, standing, name):
    (heap,) = [heap for heap in heaps(town, standing) if name in names_of_heap(town, standing, heap)]
    return heap


def due(town, one, other, goers, abouts):
    """All papers, each asked by itself whether it is due, in the order of sorts, names, roads and places."""
    names = [name for name, _ in one[1]]
    if names != [name for name, _ in other[1]]:
        return [("names",)]
    goers = names if goers is None else goers
    first, second = view(one, goers), view(other, goers)
    papers = []
    for name in names:
        if name not in goers and dict(one[1])[name] != dict(other[1])[name]:
            papers.append(("other", name))
    for road in range(len(town[1])):
        if roads_held(first).count(road) != roads_held(second).count(road):
            papers.append(("held", road))
    for name in goers:
        if home(town, first, name) != home(town, second, name):
            papers.append(("walker", name))
    for place in range(town[0]):
        (heap,) = [heap for heap in heaps(town, first) if place in heap]
        if not names_of_heap(town, first, heap) and one[0][place] != other[0][place]:
            papers.append(("still", place))
    if not papers and not abouts:
        for heap in clean_heaps(town, first):
            if sign(town, first, heap) != sign(town, second, heap):
                papers.append(("sign", heap[0]))
    return papers


def every_paper(town, names):
    """All that could be a paper in the town."""
    papers = [("names",)]
    papers += [(sort, name) for sort in ("other", "walker") for name in names]
    papers += [("held", road) for road in range(len(town[1]))]
    return papers + [(sort, place) for sort in ("still", "sign") for place in range(town[0])]


def has_wishes(standing, wishes):
    posts, roads = wishes
    return all(standing[0][place] == end for place, end in posts) and all(
        dict(standing[1])[name][0] == road for name, road in roads)


def plain_wish_papers(town, standing, wishes):
    """The papers of all sorts but ("few", ..) that are due, in the order of sorts and names, roads and places."""
    posts, roads = dict(wishes[0]), dict(wishes[1])
    held = Counter(roads_held(standing))
    wished = Counter([end[0] for end in posts.values()] + list(roads.values()))
    papers = []
    for heap in heaps(town, standing):
        for place in heap:
            if not names_of_heap(town, standing, heap) and posts.get(place, standing[0][place]) != standing[0][place]:
                papers.append(("still", place))
    papers = sorted(papers)
    for name in sorted(roads):
        if not held[roads[name]] or town[1][roads[name]][1] not in home(town, standing, name):
            papers.append(("far", name))
    return papers + [("often", road) for road in range(len(town[1])) if wished[road] > held[road]]


def few_due(town, standing, wishes, places):
    """Whether ("few", places) is due, for a list of places, rising."""
    posts, roads = dict(wishes[0]), dict(wishes[1])
    inside = [heap for heap in heaps(town, standing) if set(places) <= set(heap)]
    if not places or not inside or not names_of_heap(town, standing, inside[0]) or set(places) & set(posts):
        return False
    left = Counter(roads_held(standing))
    left.subtract([end[0] for end in posts.values()] + list(roads.values()))
    at = [many for road, many in left.items() if many > 0 and set(town[1][road]) & set(places)]
    return sum(at) < len(places)


def all_fews(town, standing, wishes):
    """All due papers ("few", ..)."""
    lots = [list(lot) for many in range(town[0] + 1) for lot in combinations(range(town[0]), many)]
    return [("few", lot) for lot in lots if few_due(town, standing, wishes, lot)]
