"""What is asked is told soon (promise [2]): eight places with sixteen roads and four walkers."""

import random
import time
import unittest

from cameposts.bars import bar_between, bar_shows
from cameposts.counted import how_many, number_of, standing_at
from cameposts.goers import circuit_of, first_time, round_of, run_of, standing_behind
from cameposts.held import basins_of, can_point, can_walk, goers_in, heaps_of, holding_of, pendants_of
from cameposts.needed import least_goers
from cameposts.signs import evens_between, sign_of, unlike_signs
from cameposts.ways import least_abouts, way_between, way_judged
from cameposts.wishes import had_judged, wishes_had
from tests.checks import Checks
from tests.walks import ends_of, place_at, some_row, walked

# Far more than is taken: the tests fail for what hangs, not for a machine that has much to do.
SECONDS = 0.02

NAMES = ("a", "ab", "kurt", "zzzzzzzz")


def full_town(chance):
    """Eight places and sixteen roads."""
    roads = [(place, chance.randrange(8)) for place in range(8)]
    return (8, roads + [(chance.randrange(8), chance.randrange(8)) for _ in range(8)])


def full_standing(chance, town):
    ends = ends_of(town)
    posts = [chance.choice([end for end in ends if place_at(town, end) == place]) for place in range(8)]
    return (posts, [(name, chance.choice(ends)) for name in NAMES])


def full_lots(many, seed):
    """Such towns, standings, and others to which rows lead from these."""
    chance = random.Random(seed)
    for _ in range(many):
        town = full_town(chance)
        one = full_standing(chance, town)
        yield town, one, walked(town, one, some_row(chance, one, 80))[-1]


class Soon(Checks):
    def soon(self, function, lots):
        """All are told, and soon on the whole."""
        began = time.perf_counter()
        for arguments, named in lots:
            function(*arguments, **named)
        self.assertLess(time.perf_counter() - began, SECONDS * len(lots), function.__name__)

    def test_held(self):
        lots = list(full_lots(60, 21))
        for function in (holding_of, heaps_of, goers_in, basins_of, pendants_of, can_walk):
            self.soon(function, [((town, one), {}) for town, one, _ in lots])
        self.soon(can_point, [((town, one, place), {}) for town, one, _ in lots for place in range(8)])

    def test_a_long_tree_of_pendant_places(self):
        town = (8, [(0, 0), (0, 0)] + [(place, place + 1) for place in range(7)] + [(0, 7)] * 7)
        posts = [(0, 0)] + [(place + 1, 1) for place in range(1, 8)]
        standing = (posts, [(name, (1, 0)) for name in NAMES])
        self.check([(place, posts[place]) for place in range(7, 0, -1)], pendants_of, town, standing)
        self.soon(pendants_of, [((town, standing), {})] * 60)

    def test_goers(self):
        lots = [(town, one, name) for town, one, _ in full_lots(60, 22) for name in NAMES]
        for function in (run_of, circuit_of, round_of):
            self.soon(function, [(lot, {}) for lot in lots])
        for steps in (10 ** 30 - 1, 1 - 10 ** 30, 10 ** 29 + 7, 1):
            self.soon(standing_behind, [(lot, {"steps": steps}) for lot in lots])
        self.soon(first_time, [((*lot, (15, 1)), {}) for lot in lots])

    def test_signs(self):
        lots = list(full_lots(60, 23))
        self.soon(sign_of, [((town, one, 7), {}) for town, one, _ in lots])
        for function in (unlike_signs, evens_between):
            self.soon(function, [(lot, {}) for lot in lots])

    def test_bars(self):
        lots = list(full_lots(60, 24))
        for more in ({}, {"abouts": False}, {"goers": ["ab", "kurt"]}, {"goers": [], "abouts": False}):
            self.soon(bar_between, [(lot, more) for lot in lots])
            self.soon(bar_shows, [((*lot, ("sign", 0)), more) for lot in lots])
            self.soon(bar_shows, [((*lot, ("held", 15)), more) for lot in lots])


    def test_ways(self):
        lots = list(full_lots(60, 26))
        for more in ({}, {"abouts": False}, {"goers": ["ab", "kurt"]}, {"goers": [], "abouts": False}):
            self.soon(way_between, [(lot, more) for lot in lots])
            ways = [way_between(*lot, **more) for lot in lots]
            self.soon(way_judged, [((*lot, way), more) for lot, way in zip(lots, ways)])
            self.soon(way_judged, [((*lot, ("row", [("step", "kurt")] * 4000)), more) for lot in lots])
        self.soon(least_abouts, [(lot, {}) for lot in lots])
        self.soon(least_goers, [(lot, {}) for lot in lots])
        self.soon(least_goers, [(lot, {"abouts": False}) for lot in lots])

    def test_wishes(self):
        lots = [(town, one, (list(enumerate(other[0]))[at::2], [(name, end[0]) for name, end in other[1][at:]]))
                for town, one, other in full_lots(60, 27) for at in (0, 1)]
        self.soon(wishes_had, [(lot, {}) for lot in lots])
        self.soon(had_judged, [((*lot, wishes_had(*lot)), {}) for lot in lots])
        self.soon(had_judged, [((*lot, ("bar", ("few", list(range(8))))), {}) for lot in lots])

    def test_counted(self):
        lots = list(full_lots(60, 28))
        for more in ({}, {"abouts": False}):
            self.soon(how_many, [((town, one), more) for town, one, _ in lots])
            many = [how_many(town, one, **more) for town, one, _ in lots]
            self.soon(standing_at, [((town, one, most - 1), more) for (town, one, _), most in zip(lots, many)])
        self.soon(number_of, [(lot, {}) for lot in lots])


class Full(Checks):
    """The full towns keep [2], too: nothing changed, all new, the same told again."""

    def test_all(self):
        for town, one, other in full_lots(12, 25):
            for function in (holding_of, heaps_of, goers_in, basins_of, pendants_of, can_walk):
                self.told(function, town, one)
            for name in NAMES:
                for function in (run_of, circuit_of, round_of):
                    self.told(function, town, one, name)
                self.told(standing_behind, town, one, name, steps=-(10 ** 25))
            for function in (unlike_signs, evens_between):
                self.told(function, town, one, other)
            self.check(None, bar_between, town, one, other)
            self.check(None, bar_between, town, other, one, goers=list(NAMES))


if __name__ == "__main__":
    unittest.main()
