"""How a row is found from one standing to another where no paper is due, as promise [18] tells it."""

from cameposts.held import find_heap, names_in
from cameposts.plays import Play, copy_town, copy_view, exchange_copies, list_copies
from cameposts.signs import find_unlike


def find_twice(town, copies, heap):
    """Tell a copy in the heap such that the next one is of the same road, None where there is none."""
    for copy, road in enumerate(copies[1:]):
        if copies[copy] == road and town[1][copy][0] in heap:
            return copy
    return None


def begin_play(town, one, other):
    """Tell the play that begins at one view, and other's copies, with signs that are alike in each heap."""
    copies = list_copies(one)
    town = copy_town(town, copies)
    start = copy_view(copies, one)
    goal = copy_view(copies, other)
    play = Play(town, start)
    for place in find_unlike(town, start, goal):
        heap = find_heap(town, start, place)
        copy = find_twice(town, copies, heap)
        if copy is None:
            play.face_about(names_in(town, start[1], heap)[0])
        else:
            goal = exchange_copies(goal, copy)
    return (play, goal)


def hand_over(play, goal):
    """Let goers go on till posts hold the roads that posts hold in the end."""
    wished = [road for road, _ in goal[0]]
    others = [road for _, (road, _) in goal[1]]
    for name, _ in goal[1]:
        # A circuit has a road more than it has places, so one of its roads is no post's in the end.
        if play.road_of(name) in wished:
            play.go_till(name, others)


def change_roads(play, first, second):
    """Let two goers that touch one basin change their roads; posts hold the same roads again."""
    one = play.road_of(first)
    other = play.road_of(second)
    basins = [each for each in play.list_basins() if play.touches(one, each) and play.touches(other, each)]
    play.go_till(first, play.ring_roads(basins[0]))
    play.go_till(second, [one])
    play.go_till(first, [other])


def hang(links, thing, ahead, parents):
    """Put the thing, and all that hangs together with it by links, into parents, each behind its own parent."""
    if thing not in parents:
        parents[thing] = ahead
        for each in links[thing]:
            hang(links, each, thing, parents)


def find_parents(links):
    """Tell for each thing one ahead of it to which it is linked, None for the first of those that hang together."""
    parents = {}
    for thing in links:
        hang(links, thing, None, parents)
    return parents


def link_roads(play, roads):
    """Tell for each of the roads all of them that touch a basin that it touches."""
    basins = play.list_basins()
    touched = {road: [at for at, basin in enumerate(basins) if play.touches(road, basin)] for road in roads}
    return {road: [each for each in roads if [at for at in touched[each] if at in touched[road]]] for road in roads}


def find_path(links, roads, start, goal):
    """List the roads behind start on a shortest way to goal by links, over these roads alone."""
    ways = [[start]]
    while ways[0][-1] != goal:
        way = ways.pop(0)
        ways.extend([way + [each] for each in links[way[-1]] if each in roads and each not in way])
    return ways[0][1:]


def change_all(play, goal):
    """Let goers change roads till each stands on its road of the end."""
    owners = {road: name for name, (road, _) in goal[1]}
    links = link_roads(play, list(owners))
    # Without its last one the rest of them still hangs together, heap by heap.
    roads = list(find_parents(links))
    while roads:
        name = owners[roads[-1]]
        for road in find_path(links, roads, play.road_of(name), roads[-1]):
            change_roads(play, name, play.goer_on(road))
        roads.pop()


def is_right(play, goal, basins, thing):
    """Tell whether a goer, by its name, or a basin, by its number, is as in the end."""
    if isinstance(thing, str):
        return play.faces[thing] == dict(goal[1])[thing]
    return all([play.posts[place] == goal[0][place] for place in basins[thing]])


def link_goers(play, basins):
    """Tell for each goer the numbers of the basins that its road touches, for each of these numbers the goers."""
    numbers = range(len(basins))
    links = {name: [at for at in numbers if play.touches(play.road_of(name), basins[at])] for name in play.faces}
    for number in numbers:
        links[number] = [name for name in play.faces if number in links[name]]
    return links


def turn_all(play, goal):
    """Let goers run till each faces its end of the end, and each ring leads round as in the end."""
    basins = play.list_basins()
    parents = find_parents(link_goers(play, basins))
    # Evenly many are wrong in each heap, so that the first of it is right when all others are.
    for thing in list(parents)[::-1]:
        if not is_right(play, goal, basins, thing):
            ahead = parents[thing]
            name, number = (thing, ahead) if isinstance(thing, str) else (ahead, thing)
            play.turn(name, basins[number])


def find_row(town, one, other):
    """List deeds of the walkers of two views that lead from one to other, with as few abouts as can be."""
    play, goal = begin_play(town, one, other)
    hand_over(play, goal)
    change_all(play, goal)
    turn_all(play, goal)
    return play.row
