"""Signs of clean heaps, and standings of one holding."""

from cameposts.errors import NoPair
from cameposts.held import count_held, find_goers, find_heaps, join_places, names_in
from cameposts.towns import need_place, need_standing, need_standings


def find_line(town, standing, holding, heap):
    """Tell the heap's posts' ends and its walkers' ends, None where it isn't clean or has no walker."""
    names = names_in(town, standing[1], heap)
    posts = [standing[0][place] for place in heap]
    ends = [end for name, end in standing[1] if name in names]
    if names and all([holding[road] == 1 for road, _ in posts + ends]):
        return (posts, ends)
    return None


def find_lines(town, standing):
    """Tell for each clean heap, by its least place, rising, its posts' ends and its walkers' ends."""
    holding = count_held(standing)
    lines = {}
    for heap in join_places(town, holding):
        line = find_line(town, standing, holding, heap)
        if line is not None:
            lines[heap[0]] = line
    return lines


def count_turned(line):
    """Tell of how many two in the line the earlier holds the road of the greater number."""
    posts, ends = line
    roads = [road for road, _ in posts + ends]
    return sum([1 for at, road in enumerate(roads) for later in roads[at + 1:] if later < road])


def find_sign(line):
    """Tell the sign of the heap that has the line."""
    posts, ends = line
    many = count_turned(line) + sum([side for _, side in posts]) + sum([1 - side for _, side in ends])
    return 1 if many % 2 == 0 else -1


def is_turned(town, one, other, heap):
    """Tell whether the heap is clean and its signs are unlike in two standings of one holding."""
    holding = count_held(one)
    line = find_line(town, one, holding, heap)
    return line is not None and find_sign(line) != find_sign(find_line(town, other, holding, heap))


def find_unlike(town, one, other):
    """List the least places, rising, of the clean heaps whose signs are unlike in two standings of one holding."""
    return [heap[0] for heap in find_heaps(town, one) if is_turned(town, one, other, heap)]


def need_pair(town, one, other):
    """Refuse what is no town, then what is no standing of it, then two that are not of one holding."""
    need_standings(town, [one, other])
    if count_held(one) != count_held(other) or find_goers(town, one) != find_goers(town, other):
        raise NoPair("these are not of one holding")


def sign_of(town, standing, place):
    """Tell the sign of the place's heap, None where that isn't clean or has no walker."""
    need_standing(town, standing)
    need_place(town, place)
    lines = find_lines(town, standing)
    for heap in find_heaps(town, standing):
        if place in heap and heap[0] in lines:
            return find_sign(lines[heap[0]])
    return None


def unlike_signs(town, one, other):
    """List the least places, rising, of the clean heaps whose signs are unlike."""
    need_pair(town, one, other)
    return find_unlike(town, one, other)


def evens_between(town, one, other):
    """Tell for each clean heap, by its least place, whether its line's roads change by evenly many exchanges."""
    need_pair(town, one, other)
    first = find_lines(town, one)
    second = find_lines(town, other)
    return {place: (count_turned(first[place]) + count_turned(second[place])) % 2 == 0 for place in first}
