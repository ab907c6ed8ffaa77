"""How many standings can be come to, and the so-manieth of them in the order of tuples."""

from cameposts.bars import find_bar, names_of, need_choice
from cameposts.errors import NoNumber, NoPair
from cameposts.held import count_held, find_heaps, names_in
from cameposts.signs import find_line, find_sign
from cameposts.towns import gather_ends, is_below, need_standing, need_standings

# How often roads are left is one number, with so many bits for each road:
# none is held oftener than 12 times.
BITS = 4
FIGURE = 15


class Heap:
    """A heap whose posts, by place, and then walkers, by name, are given ends one behind the other."""

    def __init__(self, places, names, choices, roads, sign):
        self.places = places
        self.names = names
        self.choices = choices
        self.sign = sign
        self.given = []
        self.left = sum([1 << BITS * road for road in roads])
        self.counted = {}

    def count_by_roads(self, at, left):
        """Tell in how many ways those from the so-manieth on can be given ends of the roads left."""
        if at == len(self.choices):
            return 1
        key = (at, left)
        if key not in self.counted:
            ways = [
                self.count_by_roads(at + 1, left - (1 << BITS * road))
                for road, _ in self.choices[at] if left >> BITS * road & FIGURE
            ]
            self.counted[key] = sum(ways)
        return self.counted[key]

    def count_behind(self, given, left):
        """Tell in how many ways the rest can be given ends of the roads left behind those that are given."""
        if self.sign is None:
            return self.count_by_roads(len(given), left)
        if len(given) < len(self.choices):
            # One half has the one sign and one the other: an about of the last walker changes it.
            return self.count_by_roads(len(given), left) // 2
        many = len(self.places)
        return 1 if find_sign((given[:many], given[many:])) == self.sign else 0

    def count_rest(self):
        """Tell in how many ways the rest can be given ends now."""
        return self.count_behind(self.given, self.left)

    def list_next(self):
        """List the ends that the next one can be given, each with the number of ways for the rest behind it."""
        ends = [end for end in self.choices[len(self.given)] if self.left >> BITS * end[0] & FIGURE]
        return [(end, self.count_behind(self.given + [end], self.left - (1 << BITS * end[0]))) for end in ends]

    def give(self, end):
        """Give the next one the end."""
        self.given.append(end)
        self.left = self.left - (1 << BITS * end[0])


def list_choices(town, places, names, roads):
    """List for each of the places, then of the walkers, the ends of the roads that it can have."""
    posts = [[end for end in gather_ends(town[1], place) if end[0] in roads] for place in places]
    return posts + [[(road, side) for road in roads for side in range(2)] for _ in names]


def make_heap(town, standing, places, abouts):
    """Tell the heap with these places, of which nobody is given an end yet."""
    holding = count_held(standing)
    names = names_in(town, standing[1], places)
    if not names:
        posts = [standing[0][place] for place in places]
        return Heap(places, names, [[post] for post in posts], [road for road, _ in posts], None)
    roads = [road for road in holding if town[1][road][0] in places]
    line = find_line(town, standing, holding, places)
    sign = None if abouts or line is None else find_sign(line)
    held = [road for road in roads for _ in range(holding[road])]
    return Heap(places, names, list_choices(town, places, names, roads), held, sign)


def make_heaps(town, standing, abouts):
    """List the heaps, in their order."""
    return [make_heap(town, standing, places, abouts) for places in find_heaps(town, standing)]


def list_turns(town, standing, heaps):
    """List for each place, then for each walker, the heap to which it belongs."""
    turns = [heap for place in range(town[0]) for heap in heaps if place in heap.places]
    return turns + [heap for name in names_of(standing) for heap in heaps if name in heap.names]


def count_all(heaps):
    """Tell in how many ways the rest of all heaps together can be given ends."""
    many = 1
    for heap in heaps:
        many = many * heap.count_rest()
    return many


def pick(ends, others, number):
    """Tell the end that the number wants, and the number among all that have it.

    ends are those that come next, each with its number of ways; others tells the ways of the other heaps.
    """
    for end, many in ends:
        if number < many * others:
            return (end, number)
        number = number - many * others
    return None


def how_many(town, standing, *, abouts=True):
    """Tell how many standings can be come to by deeds of all walkers."""
    need_standing(town, standing)
    need_choice(abouts)
    return count_all(make_heaps(town, standing, abouts))


def standing_at(town, standing, number, *, abouts=True):
    """Tell the standing that has the number among all that can be come to."""
    need_standing(town, standing)
    need_choice(abouts)
    heaps = make_heaps(town, standing, abouts)
    many = count_all(heaps)
    if not is_below(number, many):
        raise NoNumber("no standing has this number")
    ends = []
    for heap in list_turns(town, standing, heaps):
        others = many // heap.count_rest()
        end, number = pick(heap.list_next(), others, number)
        ends.append(end)
        heap.give(end)
        many = others * heap.count_rest()
    return (ends[:town[0]], list(zip(names_of(standing), ends[town[0]:])))


def number_of(town, standing, other, *, abouts=True):
    """Tell the number that the other standing has among all that can be come to."""
    need_standings(town, [standing, other])
    need_choice(abouts)
    if find_bar(town, standing, other, names_of(standing), abouts) is not None:
        raise NoPair("the other standing can't be come to")
    heaps = make_heaps(town, standing, abouts)
    many = count_all(heaps)
    number = 0
    ends = other[0] + [end for _, end in other[1]]
    for heap, end in zip(list_turns(town, standing, heaps), ends):
        others = many // heap.count_rest()
        number = number + others * sum([ways for each, ways in heap.list_next() if each < end])
        heap.give(end)
        many = others * heap.count_rest()
    return number
