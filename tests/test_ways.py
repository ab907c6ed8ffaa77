"""Ways from one standing to another (promises [17] and [18])."""

import itertools
import random
import unittest

from cameposts import ways
from cameposts.bars import bar_between
from cameposts.deeds import led_by
from cameposts.errors import NoChoice, NoGoers, NoStanding, NoTown
from cameposts.ways import least_abouts, way_between
from tests import second
from tests.checks import HUGE, Checks, nested
from tests.search import abouts_to, all_standings, come_to, deed_done, thawed
from tests.walks import some_row, some_standing, trials, walked


def abouts_of(row):
    return len([word for word, _ in row if word == "about"])


def unlike_heaps(town, one, other, goers):
    """How many clean heaps with a goer, by the goers' views, have unlike signs."""
    first, last = second.view(one, goers), second.view(other, goers)
    return len([heap for heap in second.clean_heaps(town, first)
                if second.sign(town, first, heap) != second.sign(town, last, heap)])


class Ways(Checks):
    def follow(self, row, town, one, other, goers, abouts):
        """The row leads from one to other as it should; tells how many abouts are in it."""
        names = [name for name, _ in one[1]] if goers is None else goers
        self.assertIs(type(row), list)
        self.assertLessEqual(len(row), 1300)
        self.assertLessEqual({name for _, name in row}, set(names))
        self.assertLessEqual({word for word, _ in row}, {"step", "about"} if abouts else {"step"})
        self.assertSame(led_by(town, one, row), other)
        self.assertEqual(walked(town, one, row)[-1], other)
        return abouts_of(row)

    def settle(self, town, one, other, goers=None, abouts=True):
        """What is told of a way is so; tells the row, None where there is none."""
        word, told = self.told(way_between, town, one, other, goers=goers, abouts=abouts)
        paper = bar_between(town, one, other, goers=goers, abouts=abouts)
        self.assertEqual(word, "row" if paper is None else "bar")
        self.check(None, ways.way_judged, town, one, other, (word, told), goers=goers, abouts=abouts)
        if word == "bar":
            self.assertSame(told, paper)
            if abouts:
                self.check(None, least_abouts, town, one, other, goers=goers)
            return None
        names = [name for name, _ in one[1]] if goers is None else goers
        many = unlike_heaps(town, one, other, names)
        self.assertEqual(self.follow(told, town, one, other, goers, abouts), many)
        self.check(many, least_abouts, town, one, other, goers=goers)
        return told


class Told(Ways):
    def test_most(self):
        self.assertIs(type(ways.MOST_WAY), int)
        self.assertEqual(ways.MOST_WAY, 1300)

    def test_nothing_to_do(self):
        for town, one, _ in trials(40, 171):
            for goers in (None, []):
                for abouts in (True, False):
                    self.check(("row", []), way_between, town, one, one, goers=goers, abouts=abouts)
            self.check(0, least_abouts, town, one, one)

    def test_a_ring_round_the_other_way(self):
        town = (3, [(0, 1), (1, 2), (2, 0), (0, 0)])
        one = ([(0, 0), (1, 0), (2, 0)], [("a", (3, 0))])
        turned = ([(2, 1), (0, 1), (1, 1)], [("a", (3, 1))])
        self.check(("row", [("step", "a")] * 4), way_between, town, one, turned)
        self.settle(town, one, turned, abouts=False)
        # The goer or the ring alone: by the sign an about is needed.
        for other in ((one[0], turned[1]), (turned[0], one[1])):
            self.assertEqual(abouts_of(self.settle(town, one, other)), 1)
            self.check(("bar", ("sign", 0)), way_between, town, one, other, abouts=False)
            self.check(1, least_abouts, town, one, other)

    def test_a_neighbour_that_it_does_not_face(self):
        """The goer faces one basin; the other one that it touches is turned, and nothing else but the goer."""
        town = (2, [(0, 0), (1, 1), (0, 1)])
        for side, turned in ((0, 1), (1, 0)):
            one = ([(0, 0), (1, 0)], [("a", (2, side))])
            posts = [(place, 1 if place == turned else 0) for place in (0, 1)]
            self.settle(town, one, (posts, [("a", (2, 1 - side))]), abouts=False)
            self.settle(town, one, (posts, one[1]))

    def test_goers_change_roads(self):
        """Two and more of one heap whose roads are others' in the end, in each order."""
        town = (2, [(0, 1), (0, 1), (0, 0), (1, 1), (0, 1), (1, 0)])
        roads = (2, 3, 4, 5)
        one = ([(0, 0), (1, 1)], [(name, (road, 0)) for name, road in zip("abcd", roads)])
        for order in itertools.permutations(roads):
            other = ([(0, 0), (1, 1)], [(name, (road, 0)) for name, road in zip("abcd", order)])
            self.assertLessEqual(abouts_of(self.settle(town, one, other)), 1)

    def test_goers_in_a_chain_change_roads(self):
        """Each touches basins that only its neighbours touch."""
        town = (5, [(place, place) for place in range(5)] + [(place, place + 1) for place in range(4)])
        posts = [(place, 0) for place in range(5)]
        one = (posts, [(name, (5 + at, at % 2)) for at, name in enumerate("abcd")])
        for order in itertools.permutations(range(5, 9)):
            other = (posts, [(name, (road, 1)) for name, road in zip("abcd", order)])
            self.settle(town, one, other)

    def test_held_often(self):
        """Roads held twice and three times: no heap is clean, so no abouts are needed."""
        town = (2, [(0, 1), (0, 0), (1, 1)])
        lots = ([("a", (0, 0)), ("b", (0, 1))], [("a", (0, 0)), ("b", (1, 1)), ("c", (0, 1))],
                [("a", (1, 0)), ("b", (1, 0)), ("c", (1, 0)), ("d", (0, 0))])
        for walkers in lots:
            one = ([(0, 0), (0, 1)], walkers)
            names = [name for name, _ in walkers]
            found = sorted(come_to(town, (tuple(one[0]), tuple(walkers)), names, False))
            for key in found[::1 + len(found) // 60]:
                self.assertEqual(abouts_of(self.settle(town, one, thawed(key))), 0)

    def test_others_stand_on_roads_of_a_goers_heap(self):
        """A walker that stands still holds nothing by the goers' view: the heap is clean without it."""
        town = (1, [(0, 0), (0, 0)])
        one = ([(0, 0)], [("a", (1, 0)), ("b", (1, 1)), ("c", (0, 0))])
        other = ([(0, 0)], [("a", (1, 1))] + one[1][1:])
        self.assertEqual(abouts_of(self.settle(town, one, other, ["a"])), 1)
        self.check(("bar", ("sign", 0)), way_between, town, one, other, goers=["a"], abouts=False)
        # With one of these two as a goer no heap is clean any more.
        for goers in (["a", "b"], ["a", "c"], None):
            self.settle(town, one, other, goers, False)
            self.check(0, least_abouts, town, one, other, goers=goers)

    def test_several_heaps(self):
        town = (3, [(0, 0), (0, 0), (1, 1), (1, 1), (2, 2), (2, 2)])
        one = ([(0, 0), (2, 0), (4, 0)], [("a", (1, 0)), ("b", (3, 0)), ("c", (5, 0))])
        for turned in itertools.product((0, 1), repeat=3):
            other = (one[0], [(name, (road, turned[at])) for at, (name, (road, _)) in enumerate(one[1])])
            self.check(sum(turned), least_abouts, town, one, other)
            self.settle(town, one, other)
            for abouts in (True, False):
                self.settle(town, one, other, ["b"], abouts)

    def test_bars(self):
        """Where none leads there the paper is the one that bar_between tells."""
        chance = random.Random(172)
        sorts = {}
        for town, one, _ in trials(300, 173):
            names = [name for name, _ in one[1]]
            other = some_standing(chance, town, names)
            if len(other[1]) < len(names) and chance.random() < 0.7:
                other = (other[0], one[1])
            goers = chance.choice([None, sorted(chance.sample(names, chance.randint(0, len(names))))])
            if self.settle(town, one, other, goers, chance.random() < 0.5) is None:
                sort = bar_between(town, one, other, goers=goers, abouts=False)[0]
                sorts[sort] = sorts.get(sort, 0) + 1
        self.assertLessEqual({"names", "other", "held", "still"}, set(sorts))

    def test_what_is_left_out(self):
        """goers None are all; abouts is True where it is left out."""
        town = (1, [(0, 0), (0, 0)])
        one, other = ([(0, 0)], [("a", (1, 0))]), ([(0, 0)], [("a", (1, 1))])
        _, row = self.told(way_between, town, one, other)
        for more in ({"goers": None}, {"goers": ["a"]}, {"abouts": True}, {"goers": None, "abouts": True}):
            self.check(("row", row), way_between, town, one, other, **more)
        self.check(("bar", ("other", "a")), way_between, town, one, other, goers=[])
        self.check(None, least_abouts, town, one, other, goers=[])
        self.check(1, least_abouts, town, one, other, goers=None)


class Search(Ways):
    """Against a search through all standings of small towns, for each lot of goers."""

    towns = [((1, [(0, 0)]), "ab"), ((1, [(0, 0), (0, 0)]), "abc"), ((2, [(0, 1)]), "abc"),
             ((2, [(0, 1), (1, 0)]), "ab"), ((2, [(0, 0), (1, 1)]), "ab"), ((2, [(0, 0), (0, 1), (1, 1)]), "ab"),
             ((2, [(0, 0), (0, 0), (1, 1)]), "ab"), ((3, [(0, 1), (1, 2)]), "ab"), ((3, [(0, 1), (1, 2), (2, 0)]), "ab"),
             ((3, [(0, 1), (2, 2), (2, 2)]), "ab"), ((3, [(0, 1), (1, 2), (2, 0), (0, 0)]), "a"),
             ((4, [(0, 1), (1, 2), (2, 3), (3, 0)]), "a"), ((4, [(0, 1), (0, 2), (0, 3)]), "ab")]

    def some_others(self, chance, town, one, names, keys):
        """Drawn standings, most of them such that deeds of anyone lead there."""
        for _ in range(6):
            yield chance.choice(keys)
            other = one
            for _ in range(chance.randint(0, 12)):
                other = deed_done(town, other, chance.choice(("step", "step", "about")), chance.choice(names))
                yield other

    def settle_by_search(self, least, town, one, other, goers):
        """By least, the abouts that the search needs to where it comes; tells them, None where it doesn't come."""
        many = least.get(other)
        asked = (town, thawed(one), thawed(other))
        for abouts in (True, False):
            word, told = way_between(*asked, goers=list(goers), abouts=abouts)
            comes = many is not None and (abouts or many == 0)
            self.assertEqual(word, "row" if comes else "bar", (asked, goers, abouts))
            if comes:
                self.assertEqual(self.follow(told, *asked, list(goers), abouts), many)
            else:
                self.assertSame(told, bar_between(*asked, goers=list(goers), abouts=abouts))
        self.assertEqual(least_abouts(*asked, goers=list(goers)), many)
        return many

    def test_just_where_the_search_comes_there(self):
        chance = random.Random(174)
        met = []
        for town, names in self.towns:
            keys = list(all_standings(town, names))
            for many in range(len(names) + 1):
                for goers in itertools.combinations(names, many):
                    for one in chance.sample(keys, min(4, len(keys))):
                        least = abouts_to(town, one, goers)
                        for other in self.some_others(chance, town, one, names, keys):
                            met.append(self.settle_by_search(least, town, one, other, goers))
        for many, often in ((None, 2000), (0, 2000), (1, 100)):
            self.assertGreater(met.count(many), often, many)

    def test_heap_by_heap(self):
        """Two clean heaps: none, one or both of them need an about."""
        town = (2, [(0, 0), (0, 0), (1, 1), (1, 1)])
        one = (((0, 0), (2, 0)), (("a", (1, 0)), ("b", (3, 0))))
        met = []
        for goers in ("ab", "a", "b", ""):
            least = abouts_to(town, one, goers)
            met += [self.settle_by_search(least, town, one, other, goers) for other in sorted(abouts_to(town, one, "ab"))]
        for many, often in ((0, 25), (1, 40), (2, 16), (None, 150)):
            self.assertGreaterEqual(met.count(many), often, many)

    def test_every_other(self):
        """All standings to which one comes, from some of each small town."""
        chance = random.Random(175)
        for town, names in self.towns:
            keys = list(all_standings(town, names))
            for one in chance.sample(keys, min(4, len(keys))):
                least = abouts_to(town, one, names)
                for other in sorted(least)[::1 + len(least) // 100]:
                    asked = (town, thawed(one), thawed(other))
                    word, row = way_between(*asked)
                    self.assertEqual(word, "row")
                    self.assertEqual(self.follow(row, *asked, None, True), least[other])


class Larger(Ways):
    def test_what_deeds_lead_to(self):
        """Towns of up to eight places and sixteen roads: to where rows of the goers' deeds lead, a row is told."""
        chance = random.Random(176)
        turned = 0
        for town, one, row in trials(250, 177, most_row=120):
            names = [name for name, _ in one[1]]
            goers = sorted(chance.sample(names, chance.randint(min(1, len(names)), len(names))))
            row = [deed for deed in row if deed[1] in goers]
            for deeds in (row, [deed for deed in row if deed[0] == "step"]):
                other = walked(town, one, deeds)[-1]
                told = self.settle(town, one, other, goers)
                self.assertIsNotNone(told)
                turned += abouts_of(told)
            self.assertEqual(abouts_of(self.settle(town, one, other, goers, False)), 0)
        self.assertGreater(turned, 20)

    def test_from_any_to_any_of_one_lot(self):
        """Long rows lie between, in towns where few roads are not held."""
        chance = random.Random(178)
        longest = 0
        for _ in range(150):
            many = chance.randint(5, 8)
            roads = [(place, chance.randrange(place)) for place in range(1, many)]
            roads += [(chance.randrange(many), chance.randrange(many)) for _ in range(chance.randint(1, 5))]
            town = (many, roads)
            one = some_standing(chance, town, "abcd")
            other = walked(town, one, some_row(chance, one, 800))[-1]
            longest = max(longest, len(self.settle(town, one, other)))
        self.assertGreater(longest, 60)


class Refusals(Ways):
    town = (2, [(0, 1), (0, 0), (1, 1)])
    one = ([(0, 0), (2, 0)], [("a", (1, 0)), ("c", (0, 1))])

    def every(self, error, wrong, town, one, other, **more):
        things = [None, ("row", []), ("bar", ("names",)), nested(list, 100)]
        lots = [(way_between, (), more)] + [(ways.way_judged, (thing,), more) for thing in things]
        if error is not NoChoice:
            lots.append((least_abouts, (), {name: more[name] for name in more if name != "abouts"}))
        for function, last, named in lots:
            if wrong is None:
                self.refuse(error, function, town, one, other, *last, **named)
            else:
                self.check_wrong(error, wrong, function, town, one, other, *last, **named)

    def test_no_town_ahead_of_all(self):
        for town, wrong in ((None, ("town",)), ((9, [(0, 1)]), ("places",)), ((2, [(0, 1), 7]), ("road", 1)),
                            ((3, [(0, 1)]), ("bare", 2))):
            self.every(NoTown, wrong, town, self.one, self.one)
            self.every(NoTown, wrong, town, None, HUGE, goers=7, abouts=None)

    def test_no_standing_of_one_then_of_other(self):
        wrongs = [(None, ("standing",)), ((self.one[0], [("a", (3, 0))]), ("walker", 0))]
        for (one, first), (other, behind) in itertools.product(wrongs, wrongs):
            self.every(NoStanding, first, self.town, one, other, goers=None, abouts=0)
            self.every(NoStanding, first, self.town, one, self.one, goers="ac")
            self.every(NoStanding, behind, self.town, self.one, other, goers=("a",), abouts=None)

    def test_no_goers_then_no_choice(self):
        bare = (self.one[0], [])
        for goers in ((), "a", ["b"], ["c", "a"], ["a", "a"], [None], [["a"]], 0, True, HUGE, nested(list, 100)):
            for abouts in (True, 0, None):
                self.every(NoGoers, None, self.town, self.one, self.one, goers=goers, abouts=abouts)
                self.every(NoGoers, None, self.town, self.one, bare, goers=goers, abouts=abouts)
        for abouts in (0, 1, None, "True", [], HUGE):
            for goers in (None, [], ["a", "c"]):
                self.every(NoChoice, None, self.town, self.one, self.one, goers=goers, abouts=abouts)
                self.every(NoChoice, None, self.town, self.one, bare, goers=goers, abouts=abouts)

    def test_by_their_names_alone(self):
        for more in ((None,), (["a"], True)):
            with self.assertRaises(TypeError):
                way_between(self.town, self.one, self.one, *more)
            with self.assertRaises(TypeError):
                least_abouts(self.town, self.one, self.one, *more)
            with self.assertRaises(TypeError):
                ways.way_judged(self.town, self.one, self.one, ("row", []), *more)
        with self.assertRaises(TypeError):
            least_abouts(self.town, self.one, self.one, abouts=True)


if __name__ == "__main__":
    unittest.main()
