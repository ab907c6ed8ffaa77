"""One goer alone: runs, circuits, rounds, and what is so many steps ahead or back (promises [11] and [12])."""

import random
import unittest

from cameposts.deeds import led_by, trail_of
from cameposts.errors import NoEnd, NoName, NoNumber, NoStanding, NoTown
from cameposts.goers import circuit_of, first_time, round_of, run_of, standing_behind
from tests import second
from tests.checks import HUGE, THINGS, Checks, nested
from tests.walks import ends_of, place_at, trials, walked

EIGHT = (1, [(0, 0), (0, 0)])
AT_FIRST = ([(0, 0)], [("a", (1, 0))])

# From 0 over 1 and 2 to the ring 3, 4, 5; a walks from 0 to 6, where a road leads back.
LONG = (7, [(0, 1), (1, 2), (2, 3), (3, 4), (4, 5), (5, 3), (0, 6), (6, 6)])
LONG_POSTS = [(0, 0), (1, 0), (2, 0), (3, 0), (4, 0), (5, 0), (7, 0)]
LONG_LOT = (LONG_POSTS, [("a", (6, 0)), ("other", (3, 1))])

GREATEST = 10 ** 30 - 1


def lots(many, seed):
    """Towns, standings and a name of a walker in each."""
    chance = random.Random(seed)
    for town, standing, _ in trials(many, seed):
        if standing[1]:
            yield town, standing, chance.choice(standing[1])[0]


def stepped(town, standing, name, many):
    return walked(town, standing, [("step", name)] * many)[-1]


def round_walked(town, standing, name):
    """All standings of the round, the first one not again."""
    passed = [standing]
    while True:
        behind = stepped(town, passed[-1], name, 1)
        if behind == standing:
            return passed
        passed.append(behind)


def way(town, posts, place):
    """Tail and ring from the place: what is passed once, then what comes again for ever."""
    passed = [place]
    for _ in range(40):
        passed.append(second.leads(town, posts, passed[-1]))
    tail = [each for each in dict.fromkeys(passed) if each not in passed[20:]]
    ring = [each for each in dict.fromkeys(passed) if each in passed[20:]]
    return tail, ring


class Runs(Checks):
    def test_a_long_tail(self):
        posts = [(0, 0), (1, 0), (2, 0), (5, 1), (3, 1), (4, 1), (7, 0)]
        self.check(([0, 1, 2], [3, 4, 5], (posts, [("a", (6, 1)), ("other", (3, 1))])), run_of, LONG, LONG_LOT, "a")

    def test_facing_a_place_on_the_ring(self):
        """The ring is told from the place to which it comes first, not from its least one."""
        posts = [(0, 0), (1, 0), (2, 0), (5, 1), (3, 1), (4, 1), (7, 0)]
        self.check(([], [4, 5, 3], (posts, [("a", (6, 0)), ("other", (3, 0))])), run_of, LONG, LONG_LOT, "other")

    def test_a_ring_of_one(self):
        turned = (LONG_POSTS, [("a", (6, 1))])
        self.check(([], [6], (LONG_POSTS[:6] + [(7, 1)], [("a", (6, 0))])), run_of, LONG, turned, "a")
        town = (2, [(0, 1), (0, 0)])
        self.check(([], [0], ([(1, 0), (0, 1)], [("a", (0, 1))])), run_of, town,
                   ([(1, 1), (0, 1)], [("a", (0, 0))]), "a")
        self.check(([1], [0], ([(1, 0), (0, 1)], [("a", (0, 0))])), run_of, town,
                   ([(1, 1), (0, 1)], [("a", (0, 1))]), "a")

    def test_a_ring_of_two_by_one_road_held_twice(self):
        town = (3, [(0, 1), (1, 2), (0, 0)])
        standing = ([(0, 0), (0, 1), (1, 1)], [("a", (2, 0))])
        self.check(([], [0, 1], (standing[0], [("a", (2, 1))])), run_of, town, standing, "a")
        standing = ([(0, 0), (0, 1), (1, 1)], [("a", (1, 1))])
        self.check(([2], [1, 0], (standing[0], [("a", (1, 0))])), run_of, town, standing, "a")

    def test_a_post_that_points_along_the_walkers_own_road(self):
        self.check(([], [0], ([(0, 1)], [("a", (0, 1))])), run_of, (1, [(0, 0)]), ([(0, 0)], [("a", (0, 0))]), "a")
        town = (2, [(0, 1), (1, 1)])
        self.check(([0], [1], ([(0, 0), (1, 1)], [("a", (0, 1))])), run_of, town,
                   ([(0, 0), (1, 0)], [("a", (0, 0))]), "a")

    def test_against_walking(self):
        sorts = set()
        for town, standing, name in lots(400, 111):
            tail, ring, behind = self.told(run_of, town, standing, name)
            road, side = dict(standing[1])[name]
            self.assertEqual((tail, ring), way(town, standing[0], place_at(town, (road, side))))
            row = [("step", name)] * (2 * len(tail) + len(ring) + 1)
            self.assertSame(behind, led_by(town, standing, row))
            self.assertSame(behind, walked(town, standing, row)[-1])
            self.assertEqual(dict(behind[1]), {**dict(standing[1]), name: (road, 1 - side)})
            for place in range(town[0]):
                post = standing[0][place]
                if place in ring:
                    ahead = ring[ring.index(place) - 1]
                    post = (standing[0][ahead][0], 1 - standing[0][ahead][1])
                self.assertEqual(behind[0][place], post)
            sorts.add((len(tail), len(ring)))
        for sort in ((0, 1), (0, 2), (0, 3), (1, 1), (1, 2), (1, 3), (2, 1), (2, 2), (3, 1)):
            self.assertIn(sort, sorts)


class Circuits(Checks):
    def test_by_hand(self):
        self.check([0, 1, 2, 3, 4, 5, 6, 7], circuit_of, LONG, LONG_LOT, "a")
        self.check([3, 4, 5], circuit_of, LONG, LONG_LOT, "other")
        self.check([0, 1], circuit_of, EIGHT, AT_FIRST, "a")

    def test_each_once(self):
        self.check([0], circuit_of, (1, [(0, 0)]), ([(0, 0)], [("a", (0, 1)), ("b", (0, 1))]), "a")
        self.check([1], circuit_of, (2, [(0, 1), (0, 1)]), ([(1, 0), (1, 1)], [("a", (1, 1)), ("b", (0, 0))]), "a")
        self.check([0, 1], circuit_of, (2, [(0, 1), (0, 1)]), ([(1, 0), (1, 1)], [("a", (1, 1)), ("b", (0, 0))]), "b")

    def test_from_both_ends(self):
        town = (4, [(1, 1), (2, 0), (0, 3), (3, 3)])
        standing = ([(2, 0), (0, 1), (1, 0), (3, 0)], [("a", (1, 0))])
        self.check([1, 2, 3], circuit_of, town, standing, "a")
        town = (4, [(0, 0), (0, 1), (1, 2), (2, 2), (3, 3)])
        self.check([0, 1], circuit_of, town, ([(0, 0), (1, 1), (3, 0), (4, 0)], [("a", (1, 1))]), "a")
        self.check([0, 1, 2, 3], circuit_of, town, ([(0, 0), (1, 1), (3, 0), (4, 0)], [("a", (2, 1))]), "a")

    def test_in_a_second_way(self):
        for town, standing, name in lots(300, 121):
            road, side = dict(standing[1])[name]
            places = [place for start in (0, 1) for part in way(town, standing[0], town[1][road][start])
                      for place in part]
            roads = sorted({road} | {standing[0][place][0] for place in places})
            self.check(roads, circuit_of, town, standing, name)
            turned = [(each, (road, 1 - side) if each == name else end) for each, end in standing[1]]
            self.check(roads, circuit_of, town, (standing[0], turned), name)

    def test_the_walker_stays_on_it(self):
        for town, standing, name in lots(150, 122):
            roads = circuit_of(town, standing, name)
            for road, _ in round_of(town, standing, name):
                self.assertIn(road, roads)


class Rounds(Checks):
    def test_by_hand(self):
        self.check([(1, 0), (0, 1), (1, 1), (0, 0)], round_of, EIGHT, AT_FIRST, "a")

    def test_an_end_faced_twice_in_a_round(self):
        """A road that leads back, held by the post and the goer, is left by the end by which the goer came."""
        ends = [(0, 0), (0, 0), (0, 1), (0, 1)]
        posts = [(0, 1), (0, 0), (0, 0), (0, 1)]
        for at in range(4):
            self.check(ends[at:] + ends[:at], round_of, (1, [(0, 0)]), ([posts[at]], [("a", ends[at])]), "a")

    def test_others_on_its_roads_count_for_nothing(self):
        lot = [("a", (1, 0)), ("b", (0, 0)), ("c", (1, 1))]
        self.check([(1, 0), (0, 1), (1, 1), (0, 0)], round_of, EIGHT, ([(0, 0)], lot), "a")

    def test_against_walking(self):
        for town, standing, name in lots(400, 123):
            passed = round_walked(town, standing, name)
            ends = [dict(each[1])[name] for each in passed]
            self.check(ends, round_of, town, standing, name)
            self.assertLessEqual(len(ends), 4 * town[0])
            trail = trail_of(town, standing, [("step", name)] * (2 * len(ends)))
            self.assertSame(trail, ends[1:] + ends + ends[:1])

    def bridges(self, town, roads):
        """The copies without which the circuit would fall apart."""
        joined = second.hang_together(town, roads)
        return [at for at in range(len(roads)) if second.hang_together(town, roads[:at] + roads[at + 1:]) != joined]

    def test_rounds_that_are_shorter_than_the_circuit_says(self):
        """[12]: R steps where at most one road is held twice, half of R where two are, a third of thrice."""
        found = {}
        for town, standing, name in lots(3000, 124):
            road, side = dict(standing[1])[name]
            places = {place for start in (0, 1) for part in way(town, standing[0], town[1][road][start])
                      for place in part}
            copies = [road] + [standing[0][place][0] for place in sorted(places)]
            held = sorted(copies.count(each) for each in set(copies) if copies.count(each) > 1)
            most = 2 * len(copies) + 2 * len(self.bridges(town, copies))
            parts = {(): 1, (2,): 1, (2, 2): 2, (3,): 3}[tuple(held)]
            self.assertEqual(len(round_of(town, standing, name)) * parts, most)
            found[tuple(held)] = found.get(tuple(held), 0) + 1
        for sort in ((), (2,), (2, 2), (3,)):
            self.assertGreater(found[sort], 5)


class Behind(Checks):
    def test_by_hand(self):
        stations = [AT_FIRST, ([(1, 0)], [("a", (0, 1))]), ([(0, 1)], [("a", (1, 1))]), ([(1, 1)], [("a", (0, 0))])]
        for steps in range(-12, 13):
            self.check(stations[steps % 4], standing_behind, EIGHT, AT_FIRST, "a", steps=steps)
        for steps in (GREATEST, GREATEST - 1, -GREATEST, 1 - GREATEST):
            self.check(stations[steps % 4], standing_behind, EIGHT, AT_FIRST, "a", steps=steps)

    def test_against_walking(self):
        for town, standing, name in lots(120, 125):
            many = len(round_walked(town, standing, name))
            for steps in (0, 1, 2, 3, 5, 17, 40):
                ahead = self.told(standing_behind, town, standing, name, steps=steps)
                self.assertSame(ahead, stepped(town, standing, name, steps))
                back = self.told(standing_behind, town, standing, name, steps=-steps)
                self.assertSame(stepped(town, back, name, steps), standing)
            for steps in (GREATEST, GREATEST - 1, -GREATEST, 1 - GREATEST, 10 ** 29):
                self.check(stepped(town, standing, name, steps % many), standing_behind, town, standing, name,
                           steps=steps)

    def test_no_number(self):
        for steps in (GREATEST + 1, -GREATEST - 1, 10 ** 31, HUGE, -HUGE, True, False, None, "", "1", [1], (1,), [], (),
                      nested(list, 100), nested(tuple, 100)):
            self.refuse(NoNumber, standing_behind, EIGHT, AT_FIRST, "a", steps=steps)

    def test_steps_by_its_name_alone(self):
        with self.assertRaises(TypeError):
            standing_behind(EIGHT, AT_FIRST, "a", 1)
        with self.assertRaises(TypeError):
            standing_behind(EIGHT, AT_FIRST, "a")


class FirstTime(Checks):
    def test_by_hand(self):
        for steps, end in enumerate([(1, 0), (0, 1), (1, 1), (0, 0)]):
            self.check(steps, first_time, EIGHT, AT_FIRST, "a", end)
        for end in ((0, 0), (7, 1)):
            self.check(None, first_time, LONG, LONG_LOT, "other", end)
        self.check(0, first_time, LONG, LONG_LOT, "other", (3, 1))

    def test_against_walking(self):
        never = 0
        for town, standing, name in lots(150, 126):
            faced = [dict(each[1])[name] for each in walked(town, standing, [("step", name)] * (4 * town[0]))]
            for end in ends_of(town):
                told = faced.index(end) if end in faced else None
                self.check(told, first_time, town, standing, name, end)
                never += told is None
        self.assertGreater(never, 100)

    def test_no_end(self):
        for end in ((2, 0), (0, 2), (-1, 0), (0, -1), (True, 0), (0, True), (HUGE, 0), (0, HUGE), (0,), (0, 0, 0),
                    [0, 0], ((0, 0),), None, True, 0, "", "ab", (None, 0), ("0", 0),
                    nested(tuple, 100), nested(list, 100)):
            self.refuse(NoEnd, first_time, EIGHT, AT_FIRST, "a", end)


class Refusals(Checks):
    def every(self, error, wrong, town, standing, name):
        calls = [(run_of, (), {}), (circuit_of, (), {}), (round_of, (), {})]
        calls += [(standing_behind, (), {"steps": steps}) for steps in (0, True, HUGE)]
        calls += [(first_time, (end,), {}) for end in ((0, 0), (True, 0), None)]
        for function, more, named in calls:
            if wrong is None:
                self.refuse(error, function, town, standing, name, *more, **named)
            else:
                self.check_wrong(error, wrong, function, town, standing, name, *more, **named)

    def test_no_town_ahead_of_all(self):
        for name in ("a", "x", None):
            self.every(NoTown, ("town",), None, AT_FIRST, name)
            self.every(NoTown, ("bare", 1), (2, [(0, 0)]), None, name)

    def test_no_standing_behind(self):
        for name in ("a", "x", None, HUGE):
            self.every(NoStanding, ("standing",), EIGHT, None, name)
            self.every(NoStanding, ("post", 0), EIGHT, ([(2, 0)], AT_FIRST[1]), name)
            self.every(NoStanding, ("walker", 0), EIGHT, (AT_FIRST[0], [("A", (0, 0))]), name)

    def test_no_name_ahead_of_the_last(self):
        for name in [thing for thing in THINGS if thing != "a"] + ["b", "aa", "A", ("a",), ["a"], ("a", (1, 0)), 0]:
            self.every(NoName, None, EIGHT, AT_FIRST, name)
        self.every(NoName, None, EIGHT, (AT_FIRST[0], []), "a")
        self.every(NoName, None, EIGHT, (AT_FIRST[0], [("b", (0, 0)), ("c", (0, 0))]), "a")


if __name__ == "__main__":
    unittest.main()
