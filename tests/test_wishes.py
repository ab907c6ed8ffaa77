"""Wishes, the standings that have them, and the papers that show that none does (promise [19])."""

import itertools
import random
import unittest

from cameposts.errors import NoStanding, NoTown, NoWishes
from cameposts.ways import way_between
from cameposts.wishes import had_judged, wishes_had
from tests import second
from tests.checks import HUGE, THINGS, Checks, nested
from tests.search import all_standings, come_to, frozen, thawed
from tests.walks import ends_of, place_at, some_standing, trials, walked

# A heap of a and b at the places 0 and 1, one of c at 2, and one without walkers at 3 and 4.
TOWN = (5, [(0, 1), (1, 0), (0, 0), (1, 1), (2, 2), (2, 2), (3, 4), (4, 3), (2, 3), (2, 2)])
ONE = ([(2, 0), (0, 1), (4, 0), (6, 0), (6, 1)], [("a", (1, 0)), ("b", (2, 1)), ("c", (5, 0))])


def wish(posts=(), roads=()):
    return (list(posts), list(roads))


def at_places(town, place):
    return [end for end in ends_of(town) if place_at(town, end) == place]


class Wishes(Checks):
    def settle(self, town, standing, wishes):
        """What is told is so; tells its word and, of a paper, its sort."""
        told = self.told(wishes_had, town, standing, wishes)
        self.check(True, had_judged, town, standing, wishes, told)
        word, what = told
        papers = second.plain_wish_papers(town, standing, wishes)
        if word == "standing":
            self.assertEqual(papers, [])
            self.assertEqual([name for name, _ in what[1]], [name for name, _ in standing[1]])
            self.assertEqual(way_between(town, standing, what)[0], "row")
            self.assertTrue(second.has_wishes(what, wishes))
            for heap in second.heaps(town, standing):
                if not second.names_of_heap(town, standing, heap):
                    for place in heap:
                        self.assertEqual(what[0][place], standing[0][place])
            return word
        if papers:
            self.assertSame(told, ("bar", papers[0]))
        else:
            self.assertIs(type(what), tuple)
            self.assertEqual(what[0], "few")
            self.assertEqual(what[1], sorted(set(what[1])))
            self.assertTrue(second.few_due(town, standing, wishes, what[1]))
        for paper in papers:
            self.check(True, had_judged, town, standing, wishes, ("bar", paper))
        return what[0]

    def papers(self, papers, *wishes):
        """These plain papers are due and no others."""
        self.settle(TOWN, ONE, wish(*wishes))
        self.assertEqual(second.plain_wish_papers(TOWN, ONE, wish(*wishes)), papers)
        for paper in all_plain(TOWN, ONE):
            self.check(paper in papers, had_judged, TOWN, ONE, wish(*wishes), ("bar", paper))


def all_plain(town, standing):
    papers = [("still", place) for place in range(town[0])] + [("far", name) for name, _ in standing[1]]
    return papers + [("often", road) for road in range(len(town[1]))]


class Had(Wishes):
    def test_none(self):
        self.assertEqual(self.settle(TOWN, ONE, wish()), "standing")
        self.assertEqual(self.settle((1, [(0, 0)]), ([(0, 1)], []), wish()), "standing")
        self.check(("standing", ([(0, 1)], [])), wishes_had, (1, [(0, 0)]), ([(0, 1)], []), wish())

    def test_some(self):
        for wishes in (wish([(0, (0, 0))]), wish([(0, (1, 1)), (1, (0, 1))]), wish([(1, (1, 0))], [("a", 0)]),
                       wish([], [("a", 2), ("b", 0)]), wish([(2, (5, 1))], [("c", 4)]), wish([(2, (5, 1))]),
                       wish([(3, (6, 0)), (4, (6, 1))]), wish([], [("a", 2)]),
                       wish([(0, (0, 0)), (2, (4, 1)), (4, (6, 1))], [("b", 2), ("c", 5)])):
            self.assertEqual(self.settle(TOWN, ONE, wishes), "standing", wishes)

    def test_all_that_a_standing_has(self):
        """Each standing that is come to can be wished as a whole; facing isn't wished."""
        town, one = (2, [(0, 1), (0, 0), (1, 1)]), ([(0, 0), (2, 0)], [("a", (0, 1)), ("b", (1, 0))])
        for key in sorted(come_to(town, frozen(one), "ab")):
            posts, walkers = key
            wishes = wish(enumerate(posts), [(name, end[0]) for name, end in walkers])
            _, told = self.told(wishes_had, town, one, wishes)
            self.assertEqual(tuple(told[0]), posts)
            self.assertEqual([(name, end[0]) for name, end in told[1]], wishes[1])


class Papers(Wishes):
    def test_still(self):
        self.papers([("still", 3), ("often", 7)], [(3, (7, 1))])
        self.papers([("still", 4), ("often", 7)], [(3, (6, 0)), (4, (7, 0))])
        self.papers([("still", 3), ("still", 4), ("often", 7)], [(3, (7, 1)), (4, (7, 0))])
        self.papers([("still", 3), ("often", 8)], [(3, (8, 1)), (4, (6, 1))])
        # The other end of the road that is held: it is held, but the post never changes.
        town, one = (1, [(0, 0)]), ([(0, 1)], [])
        self.check(("bar", ("still", 0)), wishes_had, town, one, wish([(0, (0, 0))]))
        self.check(("standing", one), wishes_had, town, one, wish([(0, (0, 1))]))

    def test_far(self):
        self.papers([("far", "a"), ("often", 3)], [], [("a", 3)])
        self.papers([("far", "a")], [], [("a", 4)])
        self.papers([("far", "c")], [], [("a", 2), ("c", 0)])
        self.papers([("far", "a"), ("far", "c")], [], [("a", 5), ("b", 2), ("c", 6)])
        self.papers([("far", "b"), ("often", 9)], [(0, (0, 0))], [("b", 9)])

    def test_often(self):
        self.papers([("often", 1)], [(0, (1, 1)), (1, (1, 0))])
        self.papers([("often", 0), ("often", 1)], [(0, (0, 0)), (1, (1, 0))], [("a", 0), ("b", 1)])
        self.papers([("often", 2)], [(0, (2, 0))], [("a", 2), ("b", 2)])
        self.papers([("often", 3)], [(1, (3, 1))])
        self.papers([("often", 5)], [(2, (5, 1))], [("c", 5)])
        # Twice is wished, and twice it is held.
        self.papers([], [(0, (2, 0))], [("a", 2)])

    def test_several(self):
        self.papers([("still", 3), ("far", "a"), ("far", "b"), ("often", 1), ("often", 5), ("often", 7)],
                    [(0, (1, 1)), (1, (1, 0)), (2, (5, 0)), (3, (7, 1))], [("a", 6), ("b", 5), ("c", 5)])

    def test_few(self):
        town = (3, [(0, 1), (1, 2), (2, 2), (1, 1), (1, 0)])
        one = ([(0, 0), (3, 0), (2, 0)], [("a", (1, 0)), ("b", (3, 1))])
        # The only road at 0 is wished elsewhere.
        for wishes in (wish([(1, (0, 1))]), wish([], [("b", 0)]), wish([], [("a", 0)])):
            self.check(("bar", ("few", [0])), wishes_had, town, one, wishes)
            for places, due in (([0], True), ([0, 1], False), ([1], False), ([2], False),
                                ([0, 2], False), ([0, 1, 2], False), ([], False), ([0, 0], False)):
                self.check(due, had_judged, town, one, wishes, ("bar", ("few", places)))
        # Two places between which one road is left.
        town = (2, [(0, 1), (0, 1), (1, 0)])
        one = ([(0, 0), (2, 0)], [("a", (1, 0))])
        self.assertEqual(self.settle(town, one, wish([], [("a", 0)])), "standing")
        one = ([(0, 0), (2, 0)], [("a", (1, 0)), ("b", (0, 1))])
        self.assertEqual(self.settle(town, one, wish([], [("a", 1), ("b", 2)])), "standing")
        town = (3, [(0, 1), (0, 2), (1, 2)])
        one = ([(0, 0), (0, 1), (1, 1)], [("a", (2, 0)), ("b", (2, 1))])
        self.assertEqual(self.settle(town, one, wish([(2, (2, 1))], [("a", 0)])), "standing")
        self.assertEqual(self.settle(town, one, wish([(2, (1, 1))], [("a", 0), ("b", 2)])), "standing")
        self.assertEqual(self.settle(town, one, wish([], [("a", 0), ("b", 0)])), "standing")
        town = (2, [(0, 0), (0, 1), (1, 1)])
        one = ([(0, 0), (1, 1)], [("a", (2, 0)), ("b", (0, 0))])
        self.check(("bar", ("few", [1])), wishes_had, town, one, wish([], [("a", 1), ("b", 2)]))
        one = ([(0, 0), (1, 1)], [("a", (0, 0))])
        self.check(("bar", ("few", [1])), wishes_had, town, one, wish([(0, (1, 0))], []))
        self.check(True, had_judged, town, one, wish([], [("a", 1)]), ("bar", ("few", [1])))
        self.check(True, had_judged, town, one, wish([], [("a", 1)]), wishes_had(town, one, wish([], [("a", 1)])))

    def test_few_whatever_else_is_due(self):
        """Roads wished oftener than they are held are just not left."""
        town = (2, [(0, 1), (0, 0), (0, 0)])
        one = ([(1, 0), (0, 1)], [("a", (1, 0))])
        wishes = wish([(0, (0, 0))], [("a", 0)])
        self.check(("bar", ("often", 0)), wishes_had, town, one, wishes)
        self.check(True, had_judged, town, one, wishes, ("bar", ("few", [1])))
        self.check(False, had_judged, town, one, wishes, ("bar", ("few", [0])))
        self.check(False, had_judged, town, one, wishes, ("bar", ("few", [0, 1])))


class Judged(Wishes):
    wishes = wish([(0, (0, 0)), (2, (4, 1))], [("b", 2)])

    def test_standings(self):
        told = wishes_had(TOWN, ONE, self.wishes)
        self.check(True, had_judged, TOWN, ONE, self.wishes, told)
        posts, walkers = told[1]
        for place in range(TOWN[0]):
            for end in at_places(TOWN, place):
                other = (posts[:place] + [end] + posts[place + 1:], walkers)
                good = way_between(TOWN, ONE, other)[0] == "row" and second.has_wishes(other, self.wishes)
                self.check(good, had_judged, TOWN, ONE, self.wishes, ("standing", other))
        for at, (name, _) in enumerate(walkers):
            for end in ends_of(TOWN):
                other = (posts, walkers[:at] + [(name, end)] + walkers[at + 1:])
                good = way_between(TOWN, ONE, other)[0] == "row" and second.has_wishes(other, self.wishes)
                self.check(good, had_judged, TOWN, ONE, self.wishes, ("standing", other))
        # One that has all wishes, but to which no row leads; one to which a row leads, but that has not all.
        self.check(False, had_judged, TOWN, ONE, self.wishes, ("standing", (posts, walkers[:2])))
        self.check(False, had_judged, TOWN, ONE, self.wishes, ("standing", (posts, walkers + [("d", (0, 0))])))
        self.check(False, had_judged, TOWN, ONE, self.wishes, ("standing", ONE))
        self.check(True, had_judged, TOWN, ONE, wish([(0, (2, 0))], [("a", 1)]), ("standing", ONE))

    def test_anything(self):
        posts, walkers = wishes_had(TOWN, ONE, self.wishes)[1]
        bad = wish([(3, (7, 1))], [("a", 4), ("b", 3)])
        standings = [None, (posts,), [posts, walkers], (posts, walkers, 0), (tuple(posts), walkers), posts,
                     (posts[:4], walkers), (posts, [list(each) for each in walkers]), (posts, walkers[::-1]),
                     (posts[:1] + [(False, 1)] + posts[2:], walkers)]
        papers = [None, (), ("still",), ("still", True), ("far", None), ("far", "x"), ("far", 0), ("often", "a"),
                  ("often", True), ("often", 99), ("often", HUGE), ("few", None), ("few", 3), ("few", ()), ("few", []),
                  ("few", (3,)), ("few", [None]), ("few", [True]), ("few", [False]), ("few", [0, True]), ("few", [HUGE]),
                  ("few", [-1]), ("few", [9]), ("few", ["a"]), ("few", [[0]]), ("few", [0], [1]), ["few", [0]],
                  ("names",), ("held", 0), ("sign", 0), ["still", 3], ("Still", 3), (None, 3), (("still",), 3), "still",
                  ("still", 3, 0), (3, "still"), ("still", (3,)), ("still", [3]), ("still", nested(list, 90)),
                  ("few", nested(list, 90)), ("few", ["a"] * 3000), ("few", list(range(3000)))]
        things = THINGS + [("standing",), ("bar",), ("row", []), ["bar", ("still", 3)], ("bar", ("still", 3), 0),
                           (("still", 3), "bar"), ("Bar", ("still", 3)), (None, ("still", 3)), (("bar",), ("still", 3)),
                           (["bar"], ("still", 3)), (True, ("still", 3)), ("standing", ("still", 3)), ("bar", ONE)]
        things += [("standing", thing) for thing in standings + THINGS] + [("bar", thing) for thing in papers + THINGS]
        for wishes in (self.wishes, bad):
            for thing in things:
                self.check(False, had_judged, TOWN, ONE, wishes, thing)
        self.check(True, had_judged, TOWN, ONE, bad, ("bar", ("still", 3)))

    def test_a_truth_is_no_place_and_no_road(self):
        town, one = (2, [(0, 0), (1, 1)]), ([(0, 0), (1, 0)], [])
        wishes = wish([(0, (0, 1)), (1, (1, 1))])
        for place in (0, 1):
            self.check(True, had_judged, town, one, wishes, ("bar", ("still", place)))
            self.check(False, had_judged, town, one, wishes, ("bar", ("still", place == 1)))
        town, one = (2, [(0, 1), (1, 0), (0, 0)]), ([(0, 0), (1, 0)], [("a", (2, 0))])
        wishes = wish([(0, (1, 1)), (1, (1, 0))], [("a", 0)])
        self.check(True, had_judged, town, one, wishes, ("bar", ("often", 1)))
        self.check(False, had_judged, town, one, wishes, ("bar", ("often", True)))
        town, one = (2, [(0, 1), (0, 0), (0, 0)]), ([(1, 0), (0, 1)], [("a", (2, 0))])
        self.check(True, had_judged, town, one, wish([(0, (0, 0))]), ("bar", ("few", [1])))
        self.check(False, had_judged, town, one, wish([(0, (0, 0))]), ("bar", ("few", [True])))


class Search(Wishes):
    """Against a search through all standings that are come to, in small towns."""

    towns = [((1, [(0, 0), (0, 0), (0, 0)]), "ab"), ((2, [(0, 1), (1, 0)]), "ab"), ((2, [(0, 1)]), "ab"),
             ((2, [(0, 0), (0, 1), (1, 1)]), "ab"), ((3, [(0, 1), (1, 2), (2, 0)]), "ab"), ((3, [(0, 1), (1, 2)]), "a"),
             ((3, [(0, 1), (1, 1), (2, 2), (2, 2)]), "ab"), ((4, [(0, 1), (1, 2), (2, 3), (3, 0), (0, 2)]), "a"),
             ((4, [(0, 1), (0, 2), (0, 3), (0, 0)]), "a"), ((4, [(0, 1), (1, 0), (2, 3), (2, 3)]), "a")]

    def some_wishes(self, chance, town, one, found):
        """Wishes for what standings have that are come to, now and then for anything else."""
        first, last = chance.choice(found), chance.choice(found)
        strange = chance.choice((0, 0, 0, 0.2, 0.5))
        posts = [(place, chance.choice(at_places(town, place)) if chance.random() < strange else first[0][place])
                 for place in range(town[0]) if chance.random() < 0.5]
        roads = [(name, chance.randrange(len(town[1])) if chance.random() < strange else end[0])
                 for name, end in last[1] if chance.random() < 0.7]
        return wish(posts, roads)

    def test_just_where_one_has_them_all(self):
        chance = random.Random(191)
        sorts = {}
        for town, names in self.towns:
            keys = list(all_standings(town, names))
            for key in chance.sample(keys, min(12, len(keys))):
                one = thawed(key)
                found = [thawed(each) for each in sorted(come_to(town, key, names))]
                for _ in range(12):
                    wishes = self.some_wishes(chance, town, one, found)
                    having = [other for other in found if second.has_wishes(other, wishes)]
                    sort = self.settle(town, one, wishes)
                    self.assertEqual(sort == "standing", len(having) > 0, (town, one, wishes))
                    sorts[sort] = sorts.get(sort, 0) + 1
                    self.judge_all(town, one, wishes, chance.sample(found, min(8, len(found))), having)
        for sort in ("standing", "still", "far", "often", "few"):
            self.assertGreater(sorts.get(sort, 0), 10, sort)

    def judge_all(self, town, one, wishes, found, having):
        """Of these standings and of all papers it is told rightly whether they are answers."""
        for other in found:
            self.assertIs(had_judged(town, one, wishes, ("standing", other)), other in having)
        papers = second.plain_wish_papers(town, one, wishes)
        fews = second.all_fews(town, one, wishes)
        if having:
            self.assertEqual(papers + fews, [])
        for paper in all_plain(town, one):
            self.assertIs(had_judged(town, one, wishes, ("bar", paper)), paper in papers)
        for many in range(town[0] + 1):
            for places in itertools.permutations(range(town[0]), many):
                paper = ("few", list(places))
                self.assertIs(had_judged(town, one, wishes, ("bar", paper)), paper in fews)

    def test_larger_towns(self):
        """Wishes of what a row leads to are had; others are judged by counting."""
        chance = random.Random(192)
        sorts = {}
        for town, one, row in trials(300, 193, most_row=60):
            found = [walked(town, one, row)[-1]]
            wishes = self.some_wishes(chance, town, one, found)
            if second.has_wishes(found[0], wishes):
                self.assertEqual(self.settle(town, one, wishes), "standing")
            found.append((some_standing(chance, town)[0], one[1]))
            wishes = self.some_wishes(chance, town, one, found)
            sort = self.settle(town, one, wishes)
            sorts[sort] = sorts.get(sort, 0) + 1
            if sort == "standing" or town[0] < 7:
                fews = second.all_fews(town, one, wishes)
                self.assertFalse(sort == "standing" and fews)
                for many in range(town[0] + 1):
                    for places in itertools.combinations(range(town[0]), many):
                        paper = ("few", list(places))
                        self.assertIs(had_judged(town, one, wishes, ("bar", paper)), paper in fews)
        for sort in ("standing", "still", "far", "often", "few"):
            self.assertGreater(sorts.get(sort, 0), 2, sort)


class Refusals(Wishes):
    no_wishes = THINGS + [
        [[], []], ([],), ([], [], []), ((), []), ([], ()), ([], None), (None, []), ("", ""), (0, []), (True, []),
        ([(0, (0, 0)), (0, (0, 0))], []), ([(1, (0, 1)), (0, (0, 0))], []), ([(0, (0, 0)), (0, (1, 1))], []),
        ([(0, (0, 1))], []), ([(1, (0, 0))], []), ([(0, (3, 0))], []), ([(5, (0, 0))], []), ([(-1, (0, 0))], []),
        ([(0, (10, 0))], []), ([(0, (-1, 0))], []), ([(0, (0, 2))], []), ([(0, (0, -1))], []), ([(0, (0, 0, 0))], []),
        ([(0, [0, 0])], []), ([[0, (0, 0)]], []), ([(0, (0, 0), 0)], []), ([(0, 0)], []), ([(0,)], []), ([0], []),
        ([None], []), ([(False, (0, 0))], []), ([(True, (0, 1))], []), ([(0, (False, 0))], []), ([(0, (0, False))], []),
        ([(HUGE, (0, 0))], []), ([(0, (HUGE, 0))], []), ([(0, (0, HUGE))], []), ([("a", 0)], []), ([((0, 0), 0)], []),
        ([], [("a", 10)]), ([], [("a", -1)]), ([], [("a", True)]), ([], [("a", False)]), ([], [("a", None)]),
        ([], [("a", (0, 0))]), ([], [("a", HUGE)]), ([], [("d", 0)]), ([], [("", 0)]), ([], [(None, 0)]), ([], [(0, 0)]),
        ([], [(["a"], 0)]), ([], [(("a",), 0)]), ([], [["a", 0]]), ([], [("a",)]), ([], [("a", 0, 0)]), ([], ["a"]),
        ([], [0]), ([], [None]), ([], [("a", 0), ("a", 0)]), ([], [("a", 0), ("a", 1)]), ([], [("b", 0), ("a", 1)]),
        ([], [("a", 0), ("c", 5), ("b", 1)]), ([], [("A", 0)]), ([(0, (0, 0))], [("x", 0)]), ([(0, (0, 1))], [("a", 0)]),
        ([], [("a", 0)] * 5000), ([(0, (0, 0))] * 5000, []), ([nested(list, 90)], []), ([], nested(list, 90)),
    ]

    def test_no_wishes(self):
        for wishes in self.no_wishes:
            self.refuse(NoWishes, wishes_had, TOWN, ONE, wishes)
            for thing in (None, ("standing", ONE), ("bar", ("still", 3)), HUGE, nested(tuple, 100)):
                self.refuse(NoWishes, had_judged, TOWN, ONE, wishes, thing)

    def test_no_town_then_no_standing(self):
        for wishes in (wish(), None, HUGE):
            for town, wrong in ((None, ("town",)), ((3, ()), ("roads",)), ((6, TOWN[1]), ("bare", 5))):
                self.check_wrong(NoTown, wrong, wishes_had, town, ONE, wishes)
                self.check_wrong(NoTown, wrong, had_judged, town, None, wishes, ("standing", ONE))
            for one, wrong in ((None, ("standing",)), ((ONE[0][1:], []), ("posts",)), ((ONE[0], [None]), ("walker", 0))):
                self.check_wrong(NoStanding, wrong, wishes_had, TOWN, one, wishes)
                self.check_wrong(NoStanding, wrong, had_judged, TOWN, one, wishes, ("bar", ("still", 3)))


if __name__ == "__main__":
    unittest.main()
