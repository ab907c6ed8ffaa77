"""Questions of one standing and another, and papers that show that no row leads there."""

from cameposts.errors import NoChoice, NoGoers
from cameposts.held import find_heap, find_heaps, list_held, names_in
from cameposts.signs import find_unlike, is_unlike
from cameposts.towns import is_below, is_pair, need_standings, place_of


def names_of(standing):
    """List the names of the standing's walkers, rising."""
    return [name for name, _ in standing[1]]


def are_goers(thing, names):
    """Tell whether it is a list of some of the names, rising."""
    if not isinstance(thing, list):
        return False
    ahead = ""
    for name in thing:
        if name not in names or name <= ahead:
            return False
        ahead = name
    return True


def need_choice(abouts):
    """Refuse what is no truth."""
    if not isinstance(abouts, bool):
        raise NoChoice("this is neither True nor False")


def need_question(town, one, other, goers, abouts):
    """Refuse what is no question; else tell the list of the names of its goers."""
    need_standings(town, [one, other])
    names = names_of(one)
    if goers is not None and not are_goers(goers, names):
        raise NoGoers("these are no goers")
    need_choice(abouts)
    return names if goers is None else list(goers)


def view_of(standing, goers):
    """Tell the standing without those who are no goers."""
    return (standing[0], [(name, end) for name, end in standing[1] if name in goers])


def find_strayed(one, other, goers):
    """List the papers of those who are no goers and face other ends."""
    ends = dict(other[1])
    return [("other", name) for name, end in one[1] if name not in goers and end != ends[name]]


def find_unlike_held(town, first, second):
    """List the papers of the roads that are held otherwise in the two views."""
    ahead = list_held(first)
    behind = list_held(second)
    return [("held", road) for road in range(len(town[1])) if ahead.count(road) != behind.count(road)]


def find_moved(town, heaps, first, second):
    """List the papers of the goers whose heaps are unlike in two views that have the same heaps."""
    homes = {name: heap for heap in heaps for name in names_in(town, second[1], heap)}
    return [("walker", name) for name, end in first[1] if place_of(town, end) not in homes[name]]


def find_still(town, heaps, first, second):
    """List the papers of the places, rising, that are in no goer's heap and whose posts are unlike."""
    still = [place for heap in heaps if not names_in(town, first[1], heap) for place in heap]
    return [("still", place) for place in sorted(still) if first[0][place] != second[0][place]]


def find_bar(town, one, other, goers, abouts):
    """Tell the first paper that is due, None where none is."""
    if names_of(one) != names_of(other):
        return ("names",)
    first = view_of(one, goers)
    second = view_of(other, goers)
    papers = find_strayed(one, other, goers) or find_unlike_held(town, first, second)
    if not papers:
        # From here on all is held alike in the two views, so that their heaps are the same.
        heaps = find_heaps(town, first)
        papers = find_moved(town, heaps, first, second) or find_still(town, heaps, first, second)
    if not papers and not abouts:
        # Only now the two views are of one holding, so that their signs can be compared.
        papers = [("sign", place) for place in find_unlike(town, first, second)]
    return papers[0] if papers else None


def faces_unlike(one, other, name):
    """Tell whether this walker faces unlike ends in both."""
    return dict(one[1])[name] != dict(other[1])[name]


def moves(town, first, second, name):
    """Tell whether this goer's heaps in the two views are unlike."""
    homes = [find_heap(town, view, place_of(town, dict(view[1])[name])) for view in (first, second)]
    return homes[0] != homes[1]


def is_still(town, view, place):
    """Tell whether the place is in no heap of a goer."""
    return not names_in(town, view[1], find_heap(town, view, place))


def is_due(town, one, other, paper, goers, abouts):
    """Tell whether a tuple of two things is a due paper of standings with the same names."""
    sort, what = paper
    first = view_of(one, goers)
    second = view_of(other, goers)
    if sort == "other":
        return what in names_of(one) and what not in goers and faces_unlike(one, other, what)
    if sort == "held":
        return is_below(what, len(town[1])) and list_held(first).count(what) != list_held(second).count(what)
    if sort == "walker":
        return what in goers and moves(town, first, second, what)
    if sort == "still":
        return is_below(what, town[0]) and one[0][what] != other[0][what] and is_still(town, first, what)
    if sort != "sign" or abouts or not is_below(what, town[0]):
        return False
    # Only where no other paper is due the two views are of one holding, so that their signs can be compared.
    return find_bar(town, one, other, goers, True) is None and is_unlike(town, first, second, what)


def find_due(town, one, other, paper, goers, abouts):
    """Tell whether the thing is a due paper."""
    if paper == ("names",):
        return names_of(one) != names_of(other)
    if not is_pair(paper) or names_of(one) != names_of(other):
        return False
    return is_due(town, one, other, paper, goers, abouts)


def bar_between(town, one, other, *, goers=None, abouts=True):
    """Tell None where a row of goers' deeds leads from one to other, else the first paper that is due."""
    names = need_question(town, one, other, goers, abouts)
    return find_bar(town, one, other, names, abouts)


def bar_shows(town, one, other, paper, *, goers=None, abouts=True):
    """Tell whether the thing is a paper that is due, whichever others are."""
    names = need_question(town, one, other, goers, abouts)
    return find_due(town, one, other, paper, names, abouts)
