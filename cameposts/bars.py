"""Questions of one standing and another, and papers that show that no row leads there."""

from cameposts.errors import NoChoice, NoGoers
from cameposts.held import count_held, find_heaps, names_in
from cameposts.signs import find_unlike
from cameposts.towns import need_standings


def names_of(standing):
    """List the names of the standing's walkers, rising."""
    return [name for name, _ in standing[1]]


def are_goers(thing, names):
    """Tell whether it is a list of some of the names, rising."""
    if not isinstance(thing, list):
        return False
    ahead = ""
    for name in thing:
        if name not in names or name <= ahead:
            return False
        ahead = name
    return True


def need_question(town, one, other, goers, abouts):
    """Refuse what is no question; else tell the list of the names of its goers."""
    need_standings(town, [one, other])
    names = names_of(one)
    if goers is not None and not are_goers(goers, names):
        raise NoGoers("these are no goers")
    if not isinstance(abouts, bool):
        raise NoChoice("this is neither True nor False")
    return names if goers is None else list(goers)


def view_of(standing, goers):
    """Tell the standing without those who are no goers."""
    return (standing[0], [(name, end) for name, end in standing[1] if name in goers])


def find_strayed(one, other, goers):
    """List the papers of those who are no goers and face other ends."""
    ends = dict(other[1])
    return [("other", name) for name, end in one[1] if name not in goers and end != ends[name]]


def find_unlike_held(town, first, second):
    """List the papers of the roads that are held otherwise in the two views."""
    ahead = count_held(first)
    behind = count_held(second)
    return [("held", road) for road in range(len(town[1])) if ahead.get(road, 0) != behind.get(road, 0)]


def find_homes(town, view):
    """Tell by name the heap of each walker of the view."""
    homes = {}
    for heap in find_heaps(town, view):
        for name in names_in(town, view[1], heap):
            homes[name] = heap
    return homes


def find_moved(town, first, second):
    """List the papers of the goers whose heaps in the two views are unlike."""
    ahead = find_homes(town, first)
    behind = find_homes(town, second)
    return [("walker", name) for name, _ in first[1] if ahead[name] != behind[name]]


def find_still(town, first, second):
    """List the papers of the places that are in no goer's heap and whose posts are unlike."""
    homes = find_homes(town, first)
    moving = [place for name in homes for place in homes[name]]
    still = [place for place in range(town[0]) if place not in moving]
    return [("still", place) for place in still if first[0][place] != second[0][place]]


def find_papers(town, one, other, goers, abouts):
    """List all papers that are due, in the order of their sorts, in each rising."""
    if names_of(one) != names_of(other):
        return [("names",)]
    first = view_of(one, goers)
    second = view_of(other, goers)
    papers = find_strayed(one, other, goers) + find_unlike_held(town, first, second)
    papers = papers + find_moved(town, first, second) + find_still(town, first, second)
    if not papers and not abouts:
        # Only now the two views are of one holding, so that their signs can be compared.
        papers = [("sign", place) for place in find_unlike(town, first, second)]
    return papers


def bar_between(town, one, other, *, goers=None, abouts=True):
    """Tell None where a row of goers' deeds leads from one to other, else the first paper that is due."""
    names = need_question(town, one, other, goers, abouts)
    papers = find_papers(town, one, other, names, abouts)
    return papers[0] if papers else None


def bar_shows(town, one, other, paper, *, goers=None, abouts=True):
    """Tell whether the thing is a paper that is due, whichever others are."""
    names = need_question(town, one, other, goers, abouts)
    # Python holds True to be 1, so that ("held", True) would be found among the papers.
    return paper in find_papers(town, one, other, names, abouts) and not isinstance(paper[-1], bool)
