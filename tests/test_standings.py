"""Standings (promise [5])."""

import random
import unittest

from cameposts.errors import NoTown
from cameposts.towns import standing_wrong
from tests.checks import HUGE, THINGS, Checks, nested
from tests.walks import ends_of, place_at, some_standing, some_town

TOWN = (3, [(0, 1), (1, 2), (2, 0), (1, 1), (0, 1)])
POSTS = [(0, 0), (3, 1), (2, 0)]
WALKERS = [("a", (0, 0)), ("b", (0, 0)), ("c", (3, 0)), ("zzzzzzzz", (4, 1))]

# None of these is an end of the town, whatever the place.
BAD_ENDS = [
    None, True, False, 0, HUGE, "", "ab", "00", [], (), [0, 0], [0, 1], (0,), (0, 0, 0), (5, 0), (5, 1), (-1, 0),
    (-5, 0), (-4, 1), [1, 0], [2, 0], (1, 0, 0), (2, 0, 0),
    (0, 2), (0, -1), (1, 2), (1, -2), (0, True), (0, False), (False, 0), (True, 0), (True, 1), (True, True), ("0", 0),
    (0, "0"), (None, 0), (0, None), ([0], 0), (0, [0]), ((0, 0), 0), (0, (0, 0)), (HUGE, 0), (0, HUGE), (-HUGE, 0),
    (0, -HUGE), nested(tuple, 100), nested(list, 100),
]
BAD_NAMES = [
    "", "abcdefghi", "zzzzzzzzz", "a" * 5000, "A", "Z", "aA", "Aa", "a1", "1", "a b", " a", "a ", "`", "{", "a`", "a{",
    "a_", "~", "-", None, True, 0, HUGE, ["a"], ("a",), ["a", "b"], ("a", "b"), [], (), nested(tuple, 98),
]


class StandingWrong(Checks):
    def test_standings(self):
        for walkers in (WALKERS, WALKERS[:3], WALKERS[1:3], WALKERS[3:], []):
            self.check(None, standing_wrong, TOWN, (POSTS, walkers))
        self.check(None, standing_wrong, (1, [(0, 0)]), ([(0, 1)], [("q", (0, 0))]))

    def test_every_end_can_be_pointed_to_at_its_place_alone(self):
        for end in ends_of(TOWN):
            for place in range(3):
                posts = POSTS[:place] + [end] + POSTS[place + 1:]
                told = None if place_at(TOWN, end) == place else ("post", place)
                self.check(told, standing_wrong, TOWN, (posts, WALKERS))

    def test_every_end_can_be_faced(self):
        for end in ends_of(TOWN):
            self.check(None, standing_wrong, TOWN, (POSTS, [("a", end), ("b", end), ("c", end), ("d", end)]))

    def test_no_tuple_of_two_lists(self):
        others = [[POSTS, WALKERS], (POSTS, WALKERS, []), (POSTS,), (tuple(POSTS), WALKERS), (POSTS, tuple(WALKERS)),
                  (POSTS, None), (None, WALKERS), (POSTS, "ab"), (True, WALKERS), (HUGE, WALKERS), (POSTS, HUGE),
                  (WALKERS, ()), ((), []), ([], ()), POSTS, WALKERS, (POSTS, ()), (None, [None] * 5)]
        for thing in THINGS + others:
            self.check(("standing",), standing_wrong, TOWN, thing)

    def test_as_many_posts_as_places(self):
        for posts in ([], POSTS[:2], POSTS[1:], POSTS + [(0, 0)], POSTS * 2, [None] * 4, [None]):
            for walkers in (WALKERS, [], [None], [None] * 5, WALKERS + WALKERS):
                self.check(("posts",), standing_wrong, TOWN, (posts, walkers))

    def test_post(self):
        for end in BAD_ENDS:
            for place in range(3):
                posts = POSTS[:place] + [end] + POSTS[place + 1:]
                self.check(("post", place), standing_wrong, TOWN, (posts, WALKERS))

    def test_truths_in_the_very_end(self):
        """Each stands for Python like an end at its place."""
        for place, end in ((0, (0, False)), (0, (False, 0)), (1, (0, True)), (1, (True, 0)), (1, (3, True)),
                           (1, (3, False)), (2, (1, True)), (2, (True, 1)), (2, (2, False))):
            posts = POSTS[:place] + [end] + POSTS[place + 1:]
            self.check(("post", place), standing_wrong, TOWN, (posts, []))

    def test_the_least_post(self):
        self.check(("post", 0), standing_wrong, TOWN, ([(0, 1), (0, 0), (0, 0)], WALKERS))
        self.check(("post", 1), standing_wrong, TOWN, ([(0, 0), (0, 0), (0, 0)], WALKERS))
        self.check(("post", 1), standing_wrong, TOWN, ([(0, 0), None, None], WALKERS))

    def test_a_post_is_told_ahead_of_walkers(self):
        for walkers in (WALKERS, WALKERS + [("zzzzzzzz", (0, 0))], [None] * 5, [None]):
            self.check(("post", 2), standing_wrong, TOWN, ([(0, 0), (0, 1), (0, 1)], walkers))

    def test_at_most_four_walkers(self):
        five = [(name, (0, 0)) for name in "abcde"]
        self.check(("walkers",), standing_wrong, TOWN, (POSTS, five))
        self.check(None, standing_wrong, TOWN, (POSTS, five[1:]))
        for walkers in ([None] * 5, [("a", (0, 0))] * 5, five * 9, list("abcde")):
            self.check(("walkers",), standing_wrong, TOWN, (POSTS, walkers))

    def test_walker(self):
        walkers = [None, True, False, 0, HUGE, "", "ab", [], (), ["b", (0, 0)], ("b",), ("b", (0, 0), (0, 0)),
                   ("b", 0, 0), ((0, 0), "b"), (("b", (0, 0)),), nested(tuple, 100)]
        walkers += [("b", end) for end in BAD_ENDS] + [(name, (0, 0)) for name in BAD_NAMES]
        for walker in walkers:
            self.check(("walker", 0), standing_wrong, TOWN, (POSTS, [walker]))
            self.check(("walker", 0), standing_wrong, TOWN, (POSTS, [walker, ("c", (0, 0)), None, None]))
            self.check(("walker", 1), standing_wrong, TOWN, (POSTS, [("a", (0, 0)), walker, ("c", (0, 0))]))
            lot = [("a", (0, 0)), ("aa", (0, 0)), ("ab", (0, 0)), walker]
            self.check(("walker", 3), standing_wrong, TOWN, (POSTS, lot))

    def names(self, *names):
        return (POSTS, [(name, (1, 1)) for name in names])

    def test_names(self):
        for name in ("a", "z", "az", "abcdefgh", "zzzzzzzz", "mmmmmmm"):
            self.check(None, standing_wrong, TOWN, self.names(name))

    def test_names_rise(self):
        self.check(None, standing_wrong, TOWN, self.names("a", "ab", "abc", "b"))
        self.check(None, standing_wrong, TOWN, self.names("aaaaaaaa", "b", "ba", "c"))
        self.check(("walker", 1), standing_wrong, TOWN, self.names("a", "a"))
        self.check(("walker", 1), standing_wrong, TOWN, self.names("ab", "a"))
        self.check(("walker", 1), standing_wrong, TOWN, self.names("b", "aa"))
        self.check(("walker", 2), standing_wrong, TOWN, self.names("a", "c", "b"))
        self.check(("walker", 2), standing_wrong, TOWN, self.names("a", "c", "a"))
        self.check(("walker", 3), standing_wrong, TOWN, self.names("a", "b", "d", "c"))
        self.check(("walker", 3), standing_wrong, TOWN, self.names("a", "b", "c", "c"))

    def test_the_least_walker(self):
        self.check(("walker", 1), standing_wrong, TOWN, self.names("b", "a", "", "A"))
        self.check(("walker", 0), standing_wrong, TOWN, self.names("B", "a", "a", "a"))
        self.check(("walker", 2), standing_wrong, TOWN, self.names("a", "b", "b", "a"))

    def test_no_town_ahead_of_all(self):
        wrongs = [(None, ("town",)), ([1, [(0, 0)]], ("town",)), ((0, [(0, 0)]), ("places",)), ((2, ()), ("roads",)),
                  ((3, TOWN[1] + [(0, 3)]), ("road", 5)), ((4, TOWN[1]), ("bare", 3))]
        for town, wrong in wrongs:
            for thing in THINGS + [(POSTS, WALKERS), (POSTS, [None])]:
                self.check_wrong(NoTown, wrong, standing_wrong, town, thing)

    def test_of_one_town_and_not_of_another(self):
        self.check(("posts",), standing_wrong, (1, [(0, 0)]), (POSTS, WALKERS))
        self.check(("post", 1), standing_wrong, (3, TOWN[1][:3]), (POSTS, WALKERS))
        self.check(("walker", 3), standing_wrong, (3, TOWN[1][:4]), (POSTS, WALKERS))

    def test_standings_made_by_chance(self):
        chance = random.Random(5)
        for _ in range(200):
            town = some_town(chance)
            posts, walkers = some_standing(chance, town)
            self.check(None, standing_wrong, town, (posts, walkers))
            place = chance.randrange(town[0])
            for end in ends_of(town):
                told = None if place_at(town, end) == place else ("post", place)
                self.check(told, standing_wrong, town, (posts[:place] + [end] + posts[place + 1:], walkers))
            if walkers:
                at = chance.randrange(len(walkers))
                for end in ((len(town[1]), 0), (0, 2), [0, 0]):
                    lot = walkers[:at] + [(walkers[at][0], end)] + walkers[at + 1:]
                    self.check(("walker", at), standing_wrong, town, (posts, lot))


if __name__ == "__main__":
    unittest.main()
