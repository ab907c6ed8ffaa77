"""Questions of one standing and another, and papers that show that no row leads there."""

from cameposts.errors import NoChoice, NoGoers
from cameposts.held import find_heap, find_heaps, find_home, list_held, names_in
from cameposts.signs import find_unlike, is_turned
from cameposts.towns import is_below, is_pair, need_standings, place_of


def names_of(standing):
    """List the names of the standing's walkers, rising."""
    return [name for name, _ in standing[1]]


def are_goers(thing, names):
    """Tell whether it is a list of some of the names, rising."""
    if not isinstance(thing, list):
        return False
    ahead = ""
    for name in thing:
        if name not in names or name <= ahead:
            return False
        ahead = name
    return True


def need_choice(abouts):
    """Refuse what is no truth."""
    if not isinstance(abouts, bool):
        raise NoChoice("this is neither True nor False")


def need_question(town, one, other, goers, abouts):
    """Refuse what is no question; else tell the list of the names of its goers."""
    need_standings(town, [one, other])
    names = names_of(one)
    if goers is not None and not are_goers(goers, names):
        raise NoGoers("these are no goers")
    need_choice(abouts)
    return names if goers is None else list(goers)


def view_of(standing, goers):
    """Tell the standing without those who are no goers."""
    return (standing[0], [(name, end) for name, end in standing[1] if name in goers])


def find_strayed(one, other, goers):
    """List the papers of those who are no goers and face other ends."""
    ends = dict(other[1])
    return [("other", name) for name, end in one[1] if name not in goers and end != ends[name]]


def find_unlike_held(town, first, second):
    """List the papers of the roads that are held otherwise in the two views."""
    ahead = sorted(list_held(first))
    behind = sorted(list_held(second))
    if ahead == behind:
        return []
    return [("held", road) for road in range(len(town[1])) if ahead.count(road) != behind.count(road)]


def find_moved(town, heaps, first, second):
    """List the papers of the goers whose heaps are unlike in two views that have the same heaps."""
    homes = {name: heap for heap in heaps for name in names_in(town, second[1], heap)}
    return [("walker", name) for name, end in first[1] if place_of(town, end) not in homes[name]]


def find_still(town, heaps, first, second):
    """List the papers of the places, rising, that are in no goer's heap and whose posts are unlike."""
    still = [place for heap in heaps if not names_in(town, first[1], heap) for place in heap]
    return [("still", place) for place in sorted(still) if first[0][place] != second[0][place]]


def find_bar(town, one, other, goers, abouts):
    """Tell the first paper that is due, None where none is."""
    if names_of(one) != names_of(other):
        return ("names",)
    first = view_of(one, goers)
    second = view_of(other, goers)
    papers = find_strayed(one, other, goers) or find_unlike_held(town, first, second)
    if not papers:
        # From here on all is held alike in the two views, so that their heaps are the same.
        heaps = find_heaps(town, first)
        papers = find_moved(town, heaps, first, second) or find_still(town, heaps, first, second)
    if not papers and not abouts:
        # Only now the two views are of one holding, so that their signs can be compared.
        papers = [("sign", place) for place in find_unlike(town, first, second)]
    return papers[0] if papers else None


def is_other_due(one, other, name, goers):
    """Tell whether this is one who is no goer and faces unlike ends in both."""
    return name in names_of(one) and name not in goers and dict(one[1])[name] != dict(other[1])[name]


def is_held_due(town, one, other, road, goers):
    """Tell whether this is a road that is held otherwise in the two views."""
    if not is_below(road, len(town[1])):
        return False
    return list_held(view_of(one, goers)).count(road) != list_held(view_of(other, goers)).count(road)


def is_walker_due(town, one, other, name, goers):
    """Tell whether this is a goer whose heaps in the two views are unlike."""
    if name not in goers:
        return False
    return find_home(town, view_of(one, goers), name) != find_home(town, view_of(other, goers), name)


def is_still_due(town, one, other, place, goers):
    """Tell whether this is a place in no goer's heap whose posts in both are unlike."""
    if not is_below(place, town[0]) or one[0][place] == other[0][place]:
        return False
    view = view_of(one, goers)
    return not names_in(town, view[1], find_heap(town, view, place))


def is_sign_due(town, one, other, place, goers):
    """Tell whether this is the least place of a heap with unlike signs, where no paper of another sort is due."""
    if not is_below(place, town[0]):
        return False
    view = view_of(one, goers)
    heap = find_heap(town, view, place)
    # Only where no other paper is due the two views are of one holding, so that their signs can be compared.
    if place != heap[0] or find_bar(town, one, other, goers, True) is not None:
        return False
    return is_turned(town, view, view_of(other, goers), heap)


def is_due(town, one, other, paper, goers, abouts):
    """Tell whether the thing is a due paper, by what this one says alone."""
    if paper == ("names",):
        return names_of(one) != names_of(other)
    if not is_pair(paper) or names_of(one) != names_of(other):
        return False
    sort, what = paper
    if sort == "other":
        return is_other_due(one, other, what, goers)
    if sort == "held":
        return is_held_due(town, one, other, what, goers)
    if sort == "walker":
        return is_walker_due(town, one, other, what, goers)
    if sort == "still":
        return is_still_due(town, one, other, what, goers)
    return sort == "sign" and not abouts and is_sign_due(town, one, other, what, goers)


def bar_between(town, one, other, *, goers=None, abouts=True):
    """Tell None where a row of goers' deeds leads from one to other, else the first paper that is due."""
    names = need_question(town, one, other, goers, abouts)
    return find_bar(town, one, other, names, abouts)


def bar_shows(town, one, other, paper, *, goers=None, abouts=True):
    """Tell whether the thing is a paper that is due, whichever others are."""
    names = need_question(town, one, other, goers, abouts)
    return is_due(town, one, other, paper, names, abouts)
