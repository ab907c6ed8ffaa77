"""Towns and the ends in them (promise [4])."""

import random
import unittest

from cameposts.errors import NoPlace, NoTown
from cameposts.towns import ends_at, town_wrong
from tests.checks import HUGE, THINGS, Checks, nested
from tests.walks import some_town

ONE = (1, [(0, 0)])
MOST = (8, [(place, (place + 1) % 8) for place in range(8)] * 2)
KNOT = (3, [(1, 0), (0, 1), (2, 2), (0, 1)])

BAD_PLACES = [0, -1, 9, 10, HUGE, -HUGE, True, False, None, "1", "", [1], (1,), [], (), nested(list, 100)]
BAD_ROADS = [None, True, False, 0, -1, HUGE, -HUGE, "", "ab", "roads", (), ((0, 0),), ((0, 0), (0, 1)), [],
             [(0, 0)] * 17, [(0, 0)] * 99]
BAD_ROAD = [
    None, True, False, 0, 1, HUGE, "", "ab", "00", [0, 0], [], (), (0,), (0, 0, 0), (0, 3), (3, 0), (3, 3), (-1, 0),
    (0, -1), (True, 0), (0, True), (False, 0), (0, False), ("0", 0), (0, "0"), (None, 0), (0, None), ([0], 0), (0, [0]),
    ((0, 0), 0), (0, (0, 0)), (HUGE, 0), (0, HUGE), (-HUGE, 0), (0, -HUGE), nested(tuple, 100), nested(list, 100),
]


class TownWrong(Checks):
    def test_towns(self):
        towns = [ONE, MOST, KNOT, (1, [(0, 0)] * 16), (2, [(0, 1)]), (2, [(1, 0)]), (2, [(0, 0), (1, 1)]),
                 (8, [(0, 1), (2, 3), (4, 5), (6, 7)]), (2, [(0, 1), (0, 1)]), (3, [(2, 2), (0, 1), (1, 0)]),
                 (8, [(place, place) for place in range(8)])]
        for town in towns:
            self.check(None, town_wrong, town)

    def test_no_tuple_of_two(self):
        for thing in THINGS + [[1, [(0, 0)]], (1,), (1, [(0, 0)], None), ((1, [(0, 0)]),), [0, []]]:
            if not (isinstance(thing, tuple) and len(thing) == 2):
                self.check(("town",), town_wrong, thing)

    def test_places(self):
        for many in BAD_PLACES:
            for roads in ([(0, 0)], MOST[1], [], None, [None], [(0, 9)], True):
                self.check(("places",), town_wrong, (many, roads))

    def test_every_number_of_places(self):
        for many in range(1, 9):
            self.check(None, town_wrong, (many, [(0, place) for place in range(many)]))
        self.check(("places",), town_wrong, (9, [(0, place) for place in range(9)]))

    def test_roads(self):
        for many in (1, 2, 8):
            for roads in BAD_ROADS:
                self.check(("roads",), town_wrong, (many, roads))

    def test_too_many_roads_are_told_ahead_of_a_wrong_one(self):
        self.check(("roads",), town_wrong, (1, [None] * 17))

    def test_every_number_of_roads(self):
        for many in range(1, 17):
            self.check(None, town_wrong, (1, [(0, 0)] * many))
        self.check(("roads",), town_wrong, (1, [(0, 0)] * 17))

    def test_road(self):
        fine = [(0, 1), (1, 2), (2, 2), (2, 0)]
        for road in BAD_ROAD:
            for at in range(5):
                roads = fine[:at] + [road] + fine[at:]
                self.check(("road", at), town_wrong, (3, roads))
            self.check(("road", 15), town_wrong, (3, fine * 3 + fine[:3] + [road]))

    def test_the_least_road(self):
        for road in BAD_ROAD:
            self.check(("road", 1), town_wrong, (3, [(0, 1), road, (0, 3), None]))
            self.check(("road", 1), town_wrong, (3, [(0, 1), (0, 3), road, None]))

    def test_a_road_is_told_ahead_of_a_bare_place(self):
        self.check(("road", 1), town_wrong, (2, [(0, 0), (0, 2)]))
        self.check(("road", 2), town_wrong, (8, [(5, 6), (7, 7), (8, 0)]))

    def test_bare(self):
        self.check(("bare", 1), town_wrong, (2, [(0, 0)]))
        self.check(("bare", 0), town_wrong, (2, [(1, 1), (1, 1)]))
        self.check(("bare", 1), town_wrong, (3, [(0, 2)]))
        self.check(("bare", 2), town_wrong, (3, [(0, 1)]))
        self.check(("bare", 7), town_wrong, (8, [(0, 1), (2, 3), (4, 5), (6, 6)]))

    def test_the_least_bare_place(self):
        self.check(("bare", 0), town_wrong, (8, [(4, 4)]))
        self.check(("bare", 2), town_wrong, (8, [(0, 1)]))
        self.check(("bare", 1), town_wrong, (4, [(0, 3)]))

    def test_every_pair_of_wrongs(self):
        """One part wrong of each sort, in all choices: the first one in the order told is told."""
        for many, first in ((2, None), (0, ("places",))):
            for roads, second in ((None, ("roads",)), ([(0, 5)], ("road", 0)), ([(1, 1)], ("bare", 0)),
                                  ([(0, 1)], None)):
                self.check(first or second, town_wrong, (many, roads))

    def test_towns_made_by_chance(self):
        chance = random.Random(4)
        for _ in range(200):
            many, roads = some_town(chance)
            self.check(None, town_wrong, (many, roads))
            at = chance.randrange(len(roads))
            self.check(("road", at), town_wrong, (many, roads[:at] + [(0, many)] + roads[at + 1:]))
            if many < 8:
                self.check(("bare", many), town_wrong, (many + 1, roads))


class EndsAt(Checks):
    def test_by_hand(self):
        self.check([(0, 0), (0, 1)], ends_at, ONE, 0)
        self.check([(0, 1), (1, 0), (3, 0)], ends_at, KNOT, 0)
        self.check([(0, 0), (1, 1), (3, 1)], ends_at, KNOT, 1)
        self.check([(2, 0), (2, 1)], ends_at, KNOT, 2)

    def test_both_ends_of_a_road_to_itself(self):
        self.check([(0, 1), (1, 0), (1, 1), (2, 0)], ends_at, (2, [(1, 0), (0, 0), (0, 1)]), 0)

    def test_order_of_tuples(self):
        self.check([(road, side) for road in range(16) for side in (0, 1)], ends_at, (1, [(0, 0)] * 16), 0)
        self.check([(0, 0), (7, 1), (8, 0), (15, 1)], ends_at, MOST, 0)

    def test_every_end_is_at_just_one_place(self):
        chance = random.Random(44)
        for _ in range(60):
            many, roads = some_town(chance)
            found = [self.told(ends_at, (many, roads), place) for place in range(many)]
            for place, ends in enumerate(found):
                self.assertTrue(ends)
                self.assertEqual(ends, sorted(ends))
                self.assertEqual({roads[road][side] for road, side in ends}, {place})
            self.assertEqual(sum(len(ends) for ends in found), 2 * len(roads))

    def test_no_place(self):
        for place in [-1, 3, 4, 8, HUGE, -HUGE, True, False, None, "", "0", "1", [0], (0,), [], (0, 1),
                      nested(list, 100)]:
            self.refuse(NoPlace, ends_at, KNOT, place)
        self.refuse(NoPlace, ends_at, ONE, 1)
        self.refuse(NoPlace, ends_at, MOST, 8)
        self.check([(6, 1), (7, 0), (14, 1), (15, 0)], ends_at, MOST, 7)

    def test_no_town_ahead_of_no_place(self):
        wrongs = [(None, ("town",)), ([1, [(0, 0)]], ("town",)), ((9, [(0, 0)]), ("places",)),
                  ((True, [(0, 0)]), ("places",)), ((HUGE, None), ("places",)),
                  ((1, []), ("roads",)), ((1, ((0, 0),)), ("roads",)),
                  ((2, [(0, 1), [0, 1]]), ("road", 1)), ((2, [(0, 0)]), ("bare", 1))]
        for town, wrong in wrongs:
            for place in (0, 1, -1, True, None, HUGE, nested(tuple, 100)):
                self.check_wrong(NoTown, wrong, ends_at, town, place)


if __name__ == "__main__":
    unittest.main()
