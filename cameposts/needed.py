"""Who must go: the least lots of goers that can lead from one standing to another."""

from itertools import combinations

from cameposts.bars import find_bar, names_of, need_choice
from cameposts.towns import need_standings


def list_lots(names):
    """List all lists of some of the names: shorter ones first, then in the order of lists."""
    return [list(lot) for many in range(len(names) + 1) for lot in combinations(names, many)]


def is_part(part, whole):
    """Tell whether all that is in the part is in the whole."""
    return all([each in whole for each in part])


def least_goers(town, one, other, *, abouts=True):
    """List the lots of goers who can lead from one to other, while no part of them alone can."""
    need_standings(town, [one, other])
    need_choice(abouts)
    least = []
    for lot in list_lots(names_of(one)):
        # Those lots of which a part is told already can lead there, too, but aren't least ones.
        if not [part for part in least if is_part(part, lot)]:
            if find_bar(town, one, other, lot, abouts) is None:
                least.append(lot)
    return least
