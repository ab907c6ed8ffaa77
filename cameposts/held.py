"""What is held, and what hangs together by it: heaps, basins, pendant places and cores."""

from cameposts.towns import gather_ends, need_place, need_standing, other_end, place_of


def list_held(standing):
    """List the roads that posts and walkers hold, in their order, each as often as it is held."""
    posts, walkers = standing
    return [end[0] for end in posts] + [end[0] for _, end in walkers]


def count_held(standing):
    """Tell for each held road, rising, how often it is held."""
    roads = list_held(standing)
    return {road: roads.count(road) for road in sorted(set(roads))}


def join_places(town, roads):
    """List the places that hang together by the roads: lists, rising, in the order of their least ones."""
    least = list(range(town[0]))
    for road in roads:
        start, end = town[1][road]
        low = least[start]
        high = least[end]
        if low > high:
            low, high = high, low
        if low != high:
            least = [low if each == high else each for each in least]
    joined = {}
    for place, top in enumerate(least):
        joined.setdefault(top, []).append(place)
    # The least of what hangs together is met ahead of the others, so the keys were added rising.
    return [joined[top] for top in joined]


def find_heaps(town, standing):
    """List the heaps, in their order."""
    return join_places(town, count_held(standing))


def find_heap(town, standing, place):
    """List the places of the heap in which the place is."""
    return [heap for heap in find_heaps(town, standing) if place in heap][0]


def find_home(town, standing, name):
    """List the places of the walker's heap."""
    return find_heap(town, standing, place_of(town, dict(standing[1])[name]))


def names_in(town, walkers, heap):
    """List the names of the walkers whose roads are in the heap, rising."""
    return [name for name, (road, _) in walkers if town[1][road][0] in heap]


def find_goers(town, standing):
    """List for each heap the names of its walkers."""
    return [names_in(town, standing[1], heap) for heap in find_heaps(town, standing)]


def find_way(town, posts, place):
    """Tell the places over which the posts lead from the place, and those of the ring to which they come."""
    passed = []
    while place not in passed:
        passed.append(place)
        place = place_of(town, other_end(posts[place]))
    start = passed.index(place)
    return (passed[:start], passed[start:])


def find_ring(town, posts, place):
    """List the places of the ring to which the posts lead from the place, from its least one on."""
    _, ring = find_way(town, posts, place)
    start = ring.index(min(ring))
    return ring[start:] + ring[:start]


def lone_end(town, holding, place):
    """Tell the end at the place where just one end of held roads is there, else None."""
    ends = [end for end in gather_ends(town[1], place) if end[0] in holding]
    if len(ends) == 1 and holding[ends[0][0]] == 1:
        return ends[0]
    return None


def next_pendant(town, holding, heap):
    """Tell the least place of the heap that is pendant, with its end, None where none is."""
    for place in heap:
        end = lone_end(town, holding, place)
        if end is not None:
            return (place, end)
    return None


def peel(town, holding, heap):
    """Take the roads of the heap's pendant places out of holding; list these places, as they go, with their ends."""
    pendants = []
    pendant = next_pendant(town, holding, heap)
    while pendant is not None:
        pendants.append(pendant)
        del holding[pendant[1][0]]
        pendant = next_pendant(town, holding, heap)
    return pendants


def find_cores(town, standing):
    """List the pendant places of heaps with walkers, with their ends, and the roads of their cores, rising."""
    holding = count_held(standing)
    heaps = join_places(town, holding)
    pendants = []
    cores = []
    for heap in heaps:
        if names_in(town, standing[1], heap):
            pendants.extend(peel(town, holding, heap))
            cores.extend([road for road in holding if town[1][road][0] in heap])
    return (pendants, sorted(cores))


def holding_of(town, standing):
    """Tell for each held road, rising, how often posts and walkers hold it."""
    need_standing(town, standing)
    return count_held(standing)


def heaps_of(town, standing):
    """List the heaps, in the order of their least places."""
    need_standing(town, standing)
    return find_heaps(town, standing)


def goers_in(town, standing):
    """List for each heap the names of the walkers on its roads, rising."""
    need_standing(town, standing)
    return find_goers(town, standing)


def basins_of(town, standing):
    """List the basins, in the order of their least places: each its ring and all its places."""
    need_standing(town, standing)
    posts = standing[0]
    basins = join_places(town, [end[0] for end in posts])
    return [(find_ring(town, posts, basin[0]), basin) for basin in basins]


def pendants_of(town, standing):
    """List the pendant places, each with its only end, in the order in which they go."""
    need_standing(town, standing)
    pendants, _ = find_cores(town, standing)
    return pendants


def can_walk(town, standing):
    """List the roads, rising, on which a walker can ever stand."""
    need_standing(town, standing)
    _, cores = find_cores(town, standing)
    return cores


def can_point(town, standing, place):
    """List the ends to which the place's post can ever point, in the order of tuples."""
    need_standing(town, standing)
    need_place(town, place)
    _, cores = find_cores(town, standing)
    ends = [end for end in gather_ends(town[1], place) if end[0] in cores]
    # At a place of no core the post stays for ever.
    return ends or [standing[0][place]]
