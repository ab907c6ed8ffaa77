"""One goer alone, all others standing still: its runs, its circuit and its round."""

from cameposts.errors import NoEnd, NoName, NoNumber
from cameposts.held import find_way
from cameposts.towns import is_end, is_whole, need_standing, other_end, place_of


def need_walker(town, standing, name):
    """Refuse what is no town, no standing of it, no walker's name; else tell the end that the walker faces."""
    need_standing(town, standing)
    for each, end in standing[1]:
        if each == name:
            return end
    raise NoName("no walker has this name")


def take_step(town, posts, end):
    """Change posts as a step of one who faces the end does; tell the end that it faces then."""
    place = place_of(town, end)
    gone = other_end(posts[place])
    posts[place] = end
    return gone


def go_on(town, standing, name, many):
    """Tell the standing behind so many steps of the walker."""
    posts = list(standing[0])
    faces = dict(standing[1])
    for _ in range(many):
        faces[name] = take_step(town, posts, faces[name])
    return (posts, [(each, faces[each]) for each in faces])


def find_round(town, standing, end):
    """List the ends that the walker who faces this end faces in its round."""
    posts = list(standing[0])
    ends = [end]
    gone = take_step(town, posts, end)
    while gone != end or posts != standing[0]:
        ends.append(gone)
        gone = take_step(town, posts, gone)
    return ends


def run_of(town, standing, name):
    """Tell the tail of the walker's run, its ring, and the standing behind it."""
    end = need_walker(town, standing, name)
    tail, ring = find_way(town, standing[0], place_of(town, end))
    return (tail, ring, go_on(town, standing, name, 2 * len(tail) + len(ring) + 1))


def circuit_of(town, standing, name):
    """List the roads, rising, of the walker and of the tails and rings from both ends of its road."""
    end = need_walker(town, standing, name)
    roads = [end[0]]
    for start in (end, other_end(end)):
        tail, ring = find_way(town, standing[0], place_of(town, start))
        roads.extend([standing[0][place][0] for place in tail + ring])
    return sorted(set(roads))


def round_of(town, standing, name):
    """List the ends that the walker faces, step by step, as long as the standing isn't again what it was."""
    end = need_walker(town, standing, name)
    return find_round(town, standing, end)


def standing_behind(town, standing, name, *, steps):
    """Tell the standing behind so many steps of the walker, below 0 the one from which so many lead here."""
    end = need_walker(town, standing, name)
    if not is_whole(steps) or not -(10 ** 30) < steps < 10 ** 30:
        raise NoNumber("this is no number of steps")
    return go_on(town, standing, name, steps % len(find_round(town, standing, end)))


def first_time(town, standing, name, end):
    """Tell the least number of the walker's steps behind which it faces the end, None where it never does."""
    faced = need_walker(town, standing, name)
    if not is_end(town, end):
        raise NoEnd("this is no end of the town")
    ends = find_round(town, standing, faced)
    if end not in ends:
        return None
    return ends.index(end)
