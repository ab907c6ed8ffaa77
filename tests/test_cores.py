"""Pendant places, cores, and what walkers and posts can ever do (promise [10])."""

import unittest

from cameposts.errors import NoPlace, NoStanding, NoTown
from cameposts.held import can_point, can_walk, goers_in, heaps_of, pendants_of
from tests import second
from tests.checks import HUGE, Checks, nested
from tests.search import all_standings, come_to, frozen, thawed
from tests.walks import trials, walked

# A road that leads back at 0; from there over 1 to 2; and over 3 to 4.
TREE = (5, [(0, 0), (0, 1), (1, 2), (3, 0), (4, 3)])
TREE_POSTS = [(0, 0), (1, 1), (2, 1), (3, 0), (4, 0)]

SMALL = [
    ((1, [(0, 0)]), "a"), ((1, [(0, 0)]), "ab"), ((1, [(0, 0), (0, 0)]), "a"), ((1, [(0, 0), (0, 0)]), "ab"),
    ((2, [(0, 1)]), "a"), ((2, [(0, 1)]), "ab"), ((2, [(0, 1), (1, 0)]), "a"), ((2, [(0, 1), (0, 1)]), "ab"),
    ((2, [(0, 0), (1, 1)]), "ab"), ((2, [(0, 0), (0, 1)]), "ab"), ((2, [(0, 0), (0, 1), (1, 1)]), "a"),
    ((3, [(0, 1), (1, 2)]), "a"), ((3, [(0, 1), (1, 2)]), "ab"), ((3, [(2, 2), (0, 1)]), "ab"),
    ((3, [(0, 1), (1, 2), (2, 0)]), "a"), ((3, [(0, 0), (0, 1), (1, 2)]), "ab"), ((3, [(0, 1), (0, 1), (1, 2)]), "a"),
    ((4, [(0, 1), (1, 2), (1, 3)]), "a"), ((4, [(1, 0), (2, 3), (3, 2)]), "a"),
    ((4, [(0, 1), (1, 2), (2, 2), (3, 1)]), "a"),
]


class Pendants(Checks):
    def test_by_hand(self):
        self.check([(2, (2, 1)), (1, (1, 1)), (4, (4, 0)), (3, (3, 0))], pendants_of, TREE,
                   (TREE_POSTS, [("a", (0, 0))]))

    def test_none_in_a_heap_without_walkers(self):
        self.check([], pendants_of, TREE, (TREE_POSTS, []))
        two = (4, [(0, 0), (0, 1), (2, 2), (2, 3)])
        posts = [(0, 0), (1, 1), (2, 0), (3, 1)]
        self.check([(3, (3, 1))], pendants_of, two, (posts, [("a", (2, 0))]))
        self.check([(1, (1, 1))], pendants_of, two, (posts, [("a", (0, 1))]))
        self.check([(1, (1, 1)), (3, (3, 1))], pendants_of, two, (posts, [("a", (2, 0)), ("b", (0, 1))]))

    def test_heap_by_heap(self):
        """A heap's places go ahead of those of the next heap, though these be lesser."""
        town = (4, [(0, 0), (0, 3), (2, 2), (1, 2)])
        posts = [(0, 0), (3, 0), (2, 0), (1, 1)]
        lot = [("a", (0, 0)), ("b", (2, 0))]
        self.check([[0, 3], [1, 2]], heaps_of, town, (posts, lot))
        self.check([(3, (1, 1)), (1, (3, 0))], pendants_of, town, (posts, lot))

    def test_the_least_place_is_looked_for_anew(self):
        """At first only 3 and 4 are pendant; behind 3 it is 1's turn, ahead of 4."""
        town = (5, [(0, 0), (0, 1), (1, 3), (0, 4), (0, 2), (2, 0)])
        posts = [(0, 0), (1, 1), (4, 1), (2, 1), (3, 1)]
        self.check([(3, (2, 1)), (1, (1, 1)), (4, (3, 1))], pendants_of, town,
                   (posts, [("a", (0, 1)), ("b", (5, 1))]))

    def test_a_road_held_twice_has_two_ends(self):
        town = (2, [(0, 1), (0, 0)])
        self.check([], pendants_of, town, ([(0, 0), (0, 1)], [("a", (1, 0))]))
        self.check([(1, (0, 1))], pendants_of, town, ([(1, 0), (0, 1)], [("a", (1, 0))]))
        self.check([], pendants_of, town, ([(1, 0), (0, 1)], [("a", (0, 0))]))

    def test_a_road_that_leads_back_has_two_ends(self):
        self.check([], pendants_of, (1, [(0, 0)]), ([(0, 0)], [("a", (0, 0))]))
        town = (2, [(0, 0), (0, 1), (1, 1)])
        self.check([], pendants_of, town, ([(0, 0), (2, 0)], [("a", (1, 0))]))
        self.check([(1, (1, 1))], pendants_of, town, ([(0, 0), (1, 1)], [("a", (0, 1))]))

    def test_in_a_second_way(self):
        many = 0
        for town, standing, row in trials(300, 101):
            pendants, roads = second.cores(town, standing)
            self.check(pendants, pendants_of, town, standing)
            self.check(roads, can_walk, town, standing)
            many += len(pendants)
            behind = walked(town, standing, row)[-1]
            self.check(pendants, pendants_of, town, behind)
            self.check(roads, can_walk, town, behind)
        self.assertGreater(many, 100)

    def test_their_posts_stay_and_none_walks_their_roads(self):
        for town, standing, row in trials(100, 102):
            pendants = pendants_of(town, standing)
            roads = can_walk(town, standing)
            for posts, walkers in walked(town, standing, row):
                self.assertTrue(all(posts[place] == end for place, end in pendants))
                self.assertTrue(all(end[0] in roads for _, end in walkers))


class Can(Checks):
    def test_by_hand(self):
        standing = (TREE_POSTS, [("a", (0, 0))])
        self.check([0], can_walk, TREE, standing)
        self.check([], can_walk, TREE, (TREE_POSTS, []))
        for place, ends in enumerate([[(0, 0), (0, 1)], [(1, 1)], [(2, 1)], [(3, 0)], [(4, 0)]]):
            self.check(ends, can_point, TREE, standing, place)
            self.check([TREE_POSTS[place]], can_point, TREE, (TREE_POSTS, []), place)

    def test_against_a_search(self):
        """Of all standings of the small towns; each core road by each walker of its heap."""
        for town, names in SMALL:
            seen = set()
            for key in all_standings(town, names):
                if key in seen:
                    continue
                part = come_to(town, key, names)
                seen |= part
                self.compare(town, key, part)
                self.compare(town, max(part), part)

    def compare(self, town, key, part):
        standing = thawed(key)
        self.check(sorted({end[0] for _, walkers in part for _, end in walkers}), can_walk, town, standing)
        for place in range(town[0]):
            self.check(sorted({posts[place] for posts, _ in part}), can_point, town, standing, place)
        cores = can_walk(town, standing)
        for heap, names in zip(heaps_of(town, standing), goers_in(town, standing)):
            for name in names:
                self.assertEqual([road for road in cores if town[1][road][0] in heap],
                                 sorted({dict(walkers)[name][0] for _, walkers in part}))

    def test_what_was_come_to_in_larger_towns(self):
        for town, standing, row in trials(60, 103, 200):
            for place in range(town[0]):
                ends = self.told(can_point, town, standing, place)
                self.assertSame(ends, sorted(ends))
                for posts, _ in walked(town, standing, row):
                    self.assertIn(posts[place], ends)

    def test_search_is_right_about_itself(self):
        """The town of the brackets in [6]: all eight ends and posts with what is held so."""
        town = (1, [(0, 0), (0, 0)])
        part = come_to(town, frozen(([(0, 0)], [("a", (1, 0))])), "a")
        self.assertEqual(len(part), 8)
        self.assertEqual(len(come_to(town, frozen(([(0, 0)], [("a", (1, 0))])), "a", False)), 4)


class NoSuchPlace(Checks):
    standing = (TREE_POSTS, [("a", (0, 0))])

    def test_no_place(self):
        for place in (-1, 5, 8, HUGE, -HUGE, True, False, None, "", "0", [0], (0,), nested(list, 100)):
            self.refuse(NoPlace, can_point, TREE, self.standing, place)

    def test_behind_no_town_and_no_standing(self):
        for place in (0, -1, True, None, HUGE):
            self.check_wrong(NoTown, ("roads",), can_point, (5, []), self.standing, place)
            self.check_wrong(NoTown, ("town",), can_point, None, None, place)
            self.check_wrong(NoStanding, ("posts",), can_point, TREE, (TREE_POSTS[1:], []), place)
            self.check_wrong(NoStanding, ("standing",), can_point, TREE, list(self.standing), place)


if __name__ == "__main__":
    unittest.main()
