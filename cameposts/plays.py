"""Posts and goers on copies of roads: a road that is held twice is two roads here, each held once."""

from cameposts.goers import take_step
from cameposts.held import find_way, join_places, list_held
from cameposts.towns import other_end, place_of


class Play:
    """A town of copies, what posts and goers do in it, and the row of their deeds so far."""

    def __init__(self, town, standing):
        self.town = town
        self.posts = list(standing[0])
        self.faces = dict(standing[1])
        self.row = []

    def road_of(self, name):
        """Tell the road on which the goer stands."""
        return self.faces[name][0]

    def goer_on(self, road):
        """Tell the name of the goer that stands on the road."""
        return [name for name in self.faces if self.road_of(name) == road][0]

    def face_about(self, name):
        """Let the goer face the other end of its road."""
        self.faces[name] = other_end(self.faces[name])
        self.row.append(("about", name))

    def go_till(self, name, roads):
        """Let the goer step on, once at least, till it stands on one of the roads."""
        deed = ("step", name)
        end = take_step(self.town, self.posts, self.faces[name])
        self.row.append(deed)
        while end[0] not in roads:
            end = take_step(self.town, self.posts, end)
            self.row.append(deed)
        self.faces[name] = end

    def run(self, name):
        """Let the goer do a run."""
        # No other copy is like its own, so it stands on it again at the run's end alone.
        self.go_till(name, [self.road_of(name)])

    def turn(self, name, basin):
        """Turn the goer and the ring of a basin that its road touches, and nothing else."""
        # By three runs it turns three times, the other basin twice, and this one once.
        for _ in range(1 if place_of(self.town, self.faces[name]) in basin else 3):
            self.run(name)

    def list_basins(self):
        """List the places of the basins, in the order of their least ones."""
        return join_places(self.town, [road for road, _ in self.posts])

    def ring_roads(self, basin):
        """List the roads of the basin's ring."""
        _, ring = find_way(self.town, self.posts, basin[0])
        return [self.posts[place][0] for place in ring]

    def touches(self, road, basin):
        """Tell whether an end of the road is at a place of the basin."""
        start, end = self.town[1][road]
        return start in basin or end in basin


def list_copies(view):
    """List the held roads, rising, each as often as it is held; a copy's number is its place in this list."""
    return sorted(list_held(view))


def copy_town(town, copies):
    """Tell the town of the copies."""
    return (town[0], [town[1][road] for road in copies])


def copy_view(copies, view):
    """Tell the view with copies in place of roads: of a road's copies, who is ahead has an earlier one."""
    posts, walkers = view
    often = {}
    ends = []
    for road, side in posts + [end for _, end in walkers]:
        ends.append((copies.index(road) + often.get(road, 0), side))
        often[road] = often.get(road, 0) + 1
    names = [name for name, _ in walkers]
    return (ends[:len(posts)], list(zip(names, ends[len(posts):])))


def exchange_copies(view, copy):
    """Tell the view in which who held this copy holds the next one, and the other way round."""
    posts, walkers = view
    new = {copy: copy + 1, copy + 1: copy}
    return (
        [(new.get(road, road), side) for road, side in posts],
        [(name, (new.get(road, road), side)) for name, (road, side) in walkers],
    )
