"""Wishes for posts and walkers: a standing that has them all, or a paper that shows that none does."""

from cameposts.bars import find_bar, names_of
from cameposts.errors import NoWishes
from cameposts.held import find_heap, find_heaps, find_home, list_held, names_in
from cameposts.towns import find_standing_wrong, is_below, is_end, is_pair, need_standing, place_of


def is_rising(things):
    """Tell whether each of the things is greater than the one ahead of it."""
    return all([ahead < thing for ahead, thing in zip(things, things[1:])])


def is_post(town, thing):
    """Tell whether it is a tuple of a place and an end at it."""
    if not is_pair(thing) or not is_below(thing[0], town[0]) or not is_end(town, thing[1]):
        return False
    return place_of(town, thing[1]) == thing[0]


def is_stand(town, names, thing):
    """Tell whether it is a tuple of one of the names and a road."""
    return is_pair(thing) and thing[0] in names and is_below(thing[1], len(town[1]))


def are_wishes(town, standing, thing):
    """Tell whether it is wishes for the standing."""
    if not is_pair(thing) or not isinstance(thing[0], list) or not isinstance(thing[1], list):
        return False
    posts, roads = thing
    names = names_of(standing)
    if not all([is_post(town, each) for each in posts]) or not all([is_stand(town, names, each) for each in roads]):
        return False
    return is_rising([place for place, _ in posts]) and is_rising([name for name, _ in roads])


def need_wishes(town, standing, wishes):
    """Refuse what is no town, then what is no standing of it, then what are no wishes for it."""
    need_standing(town, standing)
    if not are_wishes(town, standing, wishes):
        raise NoWishes("these are no wishes for the standing")


def list_wished(wishes):
    """List the roads that are wished, for posts and then for walkers, each as often as it is wished."""
    posts, roads = wishes
    return [end[0] for _, end in posts] + [road for _, road in roads]


def list_left(standing, wishes):
    """List the held roads, rising, each as often as it is held oftener than wished."""
    left = sorted(list_held(standing))
    for road in list_wished(wishes):
        if road in left:
            left.remove(road)
    return left


def has_walkers(town, standing, heap):
    """Tell whether a walker stands on a road of the heap."""
    return names_in(town, standing[1], heap) != []


def find_stiff(town, standing, posts):
    """List the papers of the wishes for posts that never change and point otherwise."""
    turned = [place for place, end in posts if standing[0][place] != end]
    return [("still", place) for place in turned if not has_walkers(town, standing, find_heap(town, standing, place))]


def find_far(town, standing, roads):
    """List the papers of the wishes for walkers to whose heaps the wished roads don't belong."""
    held = list_held(standing)
    homes = [find_home(town, standing, name) for name, _ in roads]
    return [("far", name) for (name, road), home in zip(roads, homes)
            if road not in held or town[1][road][0] not in home]


def find_often(standing, wishes):
    """List the papers of the roads that are wished oftener than they are held."""
    held = list_held(standing)
    wished = list_wished(wishes)
    return [("often", road) for road in sorted(set(wished)) if wished.count(road) > held.count(road)]


def find_plain(town, standing, wishes):
    """List the papers that are due of all sorts but the last one, in the order of the sorts, in each rising."""
    posts, roads = wishes
    return find_stiff(town, standing, posts) + find_far(town, standing, roads) + find_often(standing, wishes)


def are_bare(town, standing, wishes, thing):
    """Tell whether it is a list of places, rising, of one heap with walkers and without a wish."""
    if not isinstance(thing, list) or not thing or not all([is_below(place, town[0]) for place in thing]):
        return False
    wished = [place for place, _ in wishes[0]]
    heap = find_heap(town, standing, thing[0])
    if not is_rising(thing) or not has_walkers(town, standing, heap):
        return False
    return all([place in heap and place not in wished for place in thing])


def are_few(town, standing, wishes, thing):
    """Tell whether it is a list of such places that are more than the roads that are left for them."""
    if not are_bare(town, standing, wishes, thing):
        return False
    left = [road for road in list_left(standing, wishes) if town[1][road][0] in thing or town[1][road][1] in thing]
    return len(left) < len(thing)


def is_due(town, standing, wishes, paper):
    """Tell whether the thing is a paper that is due."""
    if not is_pair(paper):
        return False
    sort, what = paper
    if sort == "few":
        return are_few(town, standing, wishes, what)
    # Python holds True to be 1, so that ("still", True) would be found among the papers.
    return not isinstance(what, bool) and paper in find_plain(town, standing, wishes)


def is_had(town, standing, wishes, thing):
    """Tell whether it is a standing with all wishes to which a row leads."""
    if find_standing_wrong(town, thing) is not None:
        return False
    if find_bar(town, standing, thing, names_of(standing), True) is not None:
        return False
    posts, walkers = thing
    faces = dict(walkers)
    if not all([posts[place] == end for place, end in wishes[0]]):
        return False
    return all([faces[name][0] == road for name, road in wishes[1]])


def seat(town, left, seated, place, asked):
    """Give the place one of the roads left, by its number there, so that those who have one keep one; tell whether.

    asked gathers the numbers of the roads that were asked for; where it can't be done the places of these,
    with this one, are too many for them.
    """
    for number, road in enumerate(left):
        if place in town[1][road] and number not in asked:
            asked.append(number)
            if number not in seated or seat(town, left, seated, seated[number], asked):
                seated[number] = place
                return True
    return False


def seat_all(town, standing, wishes, seated):
    """Give all places without a wish, of heaps with walkers, roads that are left; tell the places that can't have them.

    seated tells by a road's number among those left, to which place it is given.
    """
    left = list_left(standing, wishes)
    wished = [place for place, _ in wishes[0]]
    for heap in find_heaps(town, standing):
        for place in heap:
            asked = []
            if place in wished or not has_walkers(town, standing, heap):
                continue
            if not seat(town, left, seated, place, asked):
                return sorted([place] + [seated[number] for number in asked])
    return []


def settle_posts(town, standing, wishes, left, seated):
    """List the posts: as wished, at the roads that are given, else as they are."""
    posts = list(standing[0])
    for place, end in wishes[0]:
        posts[place] = end
    for number in seated:
        place = seated[number]
        posts[place] = (left[number], town[1][left[number]].index(place))
    return posts


def settle_walkers(town, standing, wishes, left, seated):
    """List the walkers: on the wished roads, else on those of their heaps that are given to none."""
    free = [road for number, road in enumerate(left) if number not in seated]
    wished = dict(wishes[1])
    walkers = []
    for name in names_of(standing):
        if name in wished:
            road = wished[name]
        else:
            home = find_home(town, standing, name)
            road = [each for each in free if town[1][each][0] in home][0]
            free.remove(road)
        walkers.append((name, (road, 0)))
    return walkers


def wishes_had(town, standing, wishes):
    """Tell a standing with all wishes to which a row leads, or the first paper that shows that there is none."""
    need_wishes(town, standing, wishes)
    papers = find_plain(town, standing, wishes)
    if papers:
        return ("bar", papers[0])
    seated = {}
    few = seat_all(town, standing, wishes, seated)
    if few:
        return ("bar", ("few", few))
    left = list_left(standing, wishes)
    posts = settle_posts(town, standing, wishes, left, seated)
    return ("standing", (posts, settle_walkers(town, standing, wishes, left, seated)))


def had_judged(town, standing, wishes, thing):
    """Tell whether the thing is an answer to the wishes that is right."""
    need_wishes(town, standing, wishes)
    if not is_pair(thing):
        return False
    word, what = thing
    if word == "standing":
        return is_had(town, standing, wishes, what)
    return word == "bar" and is_due(town, standing, wishes, what)
