"""What is held, heaps, and the goers in them (promise [8])."""

import random
import unittest
from collections import Counter

from cameposts.errors import NoStanding, NoTown
from cameposts.held import (basins_of, can_point, can_walk, goers_in, heaps_of, holding_of, pendants_of)
from tests import second
from tests.checks import HUGE, THINGS, Checks, nested
from tests.walks import some_row, trials, walked

ALL = [holding_of, heaps_of, goers_in, basins_of, pendants_of, can_walk]

# Two roads from 0 to 1, one from 1 to 2, one that leads back to 2, one from 3 to 4 and one from 4 to 5.
TOWN = (6, [(0, 1), (1, 0), (1, 2), (2, 2), (3, 4), (4, 5)])
POSTS = [(0, 0), (0, 1), (3, 1), (4, 0), (5, 0), (5, 1)]


class Holding(Checks):
    def test_by_hand(self):
        self.check({0: 2, 3: 1, 4: 1, 5: 2}, holding_of, TOWN, (POSTS, []))
        self.check({0: 3, 1: 1, 3: 1, 4: 2, 5: 2}, holding_of, TOWN,
                   (POSTS, [("a", (1, 1)), ("b", (0, 1)), ("c", (4, 0))]))

    def test_a_road_that_leads_back_to_its_place(self):
        self.check({0: 1}, holding_of, (1, [(0, 0)]), ([(0, 1)], []))
        self.check({0: 3}, holding_of, (1, [(0, 0)]), ([(0, 1)], [("a", (0, 0)), ("b", (0, 1))]))
        self.check({1: 1}, holding_of, (1, [(0, 0), (0, 0)]), ([(1, 0)], []))

    def test_held_by_two_posts_or_a_post_and_walkers(self):
        town = (2, [(0, 1), (0, 1)])
        self.check({0: 2}, holding_of, town, ([(0, 0), (0, 1)], []))
        self.check({0: 1, 1: 1}, holding_of, town, ([(1, 0), (0, 1)], []))
        lot = [("a", (1, 0)), ("b", (1, 0)), ("c", (1, 1)), ("d", (1, 1))]
        self.check({0: 2, 1: 4}, holding_of, town, ([(0, 0), (0, 1)], lot))
        self.check({1: 6}, holding_of, town, ([(1, 0), (1, 1)], lot))

    def test_keys_rise(self):
        for town, standing, _ in trials(200, 81):
            holding = self.told(holding_of, town, standing)
            self.assertEqual(list(holding), sorted(holding))
            self.assertSame(sorted(holding.items()), sorted(Counter(second.roads_held(standing)).items()))
            self.assertEqual(sum(holding.values()), town[0] + len(standing[1]))

    def test_no_deed_changes_it(self):
        for town, standing, row in trials(120, 82):
            holding, heaps, lots = (function(town, standing) for function in (holding_of, heaps_of, goers_in))
            for passed in walked(town, standing, row):
                self.assertSame(holding_of(town, passed), holding)
                self.assertSame(heaps_of(town, passed), heaps)
                self.assertSame(goers_in(town, passed), lots)


class Heaps(Checks):
    def test_by_hand(self):
        self.check([[0, 1], [2], [3, 4, 5]], heaps_of, TOWN, (POSTS, []))
        self.check([[], [], []], goers_in, TOWN, (POSTS, []))
        joined = (POSTS, [("a", (2, 0)), ("b", (2, 1)), ("c", (4, 0))])
        self.check([[0, 1, 2], [3, 4, 5]], heaps_of, TOWN, joined)
        self.check([["a", "b"], ["c"]], goers_in, TOWN, joined)

    def test_heaps_without_walkers_have_their_place_in_the_order(self):
        lot = (POSTS, [("a", (5, 1)), ("b", (5, 0)), ("c", (0, 0))])
        self.check([[0, 1], [2], [3, 4, 5]], heaps_of, TOWN, lot)
        self.check([["c"], [], ["a", "b"]], goers_in, TOWN, lot)
        self.check([[], ["a"], []], goers_in, TOWN, (POSTS, [("a", (3, 0))]))

    def test_places_of_one_heap_need_not_stand_side_by_side(self):
        town = (4, [(3, 0), (2, 1), (0, 0)])
        standing = ([(2, 0), (1, 1), (1, 0), (0, 0)], [("k", (1, 1)), ("l", (0, 1))])
        self.check([[0, 3], [1, 2]], heaps_of, town, standing)
        self.check([["l"], ["k"]], goers_in, town, standing)

    def test_a_long_way_round(self):
        town = (8, [(7, 6), (5, 4), (3, 2), (1, 7), (2, 5), (6, 3), (0, 4), (4, 0)])
        posts = [(6, 0), (3, 0), (4, 0), (2, 0), (7, 0), (1, 0), (5, 0), (0, 0)]
        self.check([[0, 1, 2, 3, 4, 5, 6, 7]], heaps_of, town, (posts, []))

    def test_against_a_flood(self):
        for town, standing, _ in trials(250, 83):
            heaps = second.heaps(town, standing)
            self.check(heaps, heaps_of, town, standing)
            self.check([second.names_of_heap(town, standing, heap) for heap in heaps], goers_in, town, standing)


class Basins(Checks):
    """Promise [9]."""

    def test_rings_of_one_place(self):
        self.check([([0], [0])], basins_of, (1, [(0, 0)]), ([(0, 0)], []))
        self.check([([0], [0])], basins_of, (1, [(0, 0)]), ([(0, 1)], []))
        self.check([([0], [0, 1])], basins_of, (2, [(0, 0), (1, 0)]), ([(0, 1), (1, 0)], []))
        self.check([([1], [0, 1])], basins_of, (2, [(1, 1), (1, 0)]), ([(1, 1), (0, 1)], []))

    def test_rings_of_two_places(self):
        town = (2, [(0, 1), (1, 0)])
        for posts in ([(0, 0), (0, 1)], [(1, 1), (1, 0)], [(0, 0), (1, 0)], [(1, 1), (0, 1)]):
            self.check([([0, 1], [0, 1])], basins_of, town, (posts, []))
        self.check([([1, 2], [0, 1, 2])], basins_of, (3, [(0, 1), (2, 1)]), ([(0, 0), (1, 1), (1, 0)], []))

    def test_longer_rings_from_the_least_place_on(self):
        town = (4, [(0, 1), (1, 2), (2, 0), (3, 1)])
        self.check([([0, 1, 2], [0, 1, 2, 3])], basins_of, town, ([(0, 0), (1, 0), (2, 0), (3, 0)], []))
        self.check([([0, 2, 1], [0, 1, 2, 3])], basins_of, town, ([(2, 1), (0, 1), (1, 1), (3, 0)], []))
        far = (5, [(0, 4), (4, 2), (2, 3), (3, 4), (1, 2)])
        self.check([([2, 3, 4], [0, 1, 2, 3, 4])], basins_of, far, ([(0, 0), (4, 0), (2, 0), (3, 0), (1, 0)], []))
        self.check([([2, 4, 3], [0, 1, 2, 3, 4])], basins_of, far, ([(0, 0), (4, 0), (1, 1), (2, 1), (3, 1)], []))

    def test_several(self):
        self.check([([0, 1], [0, 1]), ([2], [2]), ([4, 5], [3, 4, 5])], basins_of, TOWN, (POSTS, []))
        town = (5, [(4, 2), (2, 0), (0, 0), (3, 1), (1, 3)])
        self.check([([0], [0, 2, 4]), ([1, 3], [1, 3])], basins_of, town,
                   ([(2, 0), (4, 0), (1, 0), (3, 0), (0, 0)], []))

    def test_walkers_count_for_nothing(self):
        for town, standing, _ in trials(60, 91):
            self.assertSame(basins_of(town, standing), basins_of(town, (standing[0], [])))

    def test_in_a_second_way(self):
        rings = Counter()
        for town, standing, row in trials(250, 92):
            found = self.told(basins_of, town, standing)
            self.assertSame(found, second.basins(town, standing[0]))
            rings.update(len(ring) for ring, _ in found)
            behind = walked(town, standing, row)[-1]
            self.check(second.basins(town, behind[0]), basins_of, town, behind)
        for many in (1, 2, 3, 4):
            self.assertGreater(rings[many], 0)


class Refusals(Checks):
    def test_no_town_ahead_of_all(self):
        for town, wrong in ((None, ("town",)), ((9, [(0, 0)]), ("places",)), ((1, ((0, 0),)), ("roads",)),
                            ((2, [(0, 1), (0, True)]), ("road", 1)), ((2, [(0, 0)]), ("bare", 1))):
            for standing in ((POSTS, []), None, HUGE, nested(list, 100)):
                for function in ALL:
                    self.check_wrong(NoTown, wrong, function, town, standing)
                for place in (0, -1, None, HUGE):
                    self.check_wrong(NoTown, wrong, can_point, town, standing, place)

    def test_no_standing_behind(self):
        wrongs = [(thing, ("standing",)) for thing in THINGS if not isinstance(thing, tuple) or len(thing) != 2]
        wrongs += [((POSTS[:5], []), ("posts",)), ((POSTS[:5] + [(4, 0)], []), ("post", 5)),
                   ((POSTS, [("a", (0, 0))] * 5), ("walkers",)),
                   ((POSTS, [("a", (0, 0)), ("a", (0, 0))]), ("walker", 1))]
        for standing, wrong in wrongs:
            for function in ALL:
                self.check_wrong(NoStanding, wrong, function, TOWN, standing)
            for place in (0, 6, None):
                self.check_wrong(NoStanding, wrong, can_point, TOWN, standing, place)


class Alone(Checks):
    def test_the_same_standing_in_another_order_of_asking(self):
        """No answer hangs on what was asked ahead."""
        chance = random.Random(85)
        lots = [(town, standing) for town, standing, _ in trials(20, 86)]
        first = [[function(*lot) for function in ALL] for lot in lots]
        order = list(range(len(lots)))
        chance.shuffle(order)
        for at in order:
            town, standing = lots[at]
            walked(town, standing, some_row(chance, standing, 5))
            for function, told in zip(reversed(ALL), reversed(first[at])):
                self.assertSame(function(town, standing), told)


if __name__ == "__main__":
    unittest.main()
