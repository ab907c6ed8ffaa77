"""How many standings can be come to, and their numbers (promise [21])."""

import itertools
import random
import unittest

from cameposts.bars import bar_between
from cameposts.counted import how_many, number_of, standing_at
from cameposts.errors import NoChoice, NoNumber, NoPair, NoStanding, NoTown
from tests import second
from tests.checks import HUGE, THINGS, Checks, nested
from tests.search import all_standings, come_to, frozen, thawed
from tests.test_soon import full_lots
from tests.walks import ends_of, place_at, some_standing, trials, walked

TOWNS = [((1, [(0, 0)]), "ab"), ((1, [(0, 0), (0, 0)]), "abc"), ((1, [(0, 0), (0, 0), (0, 0)]), "ab"),
         ((2, [(0, 1)]), "ab"), ((2, [(0, 1), (1, 0)]), "ab"), ((2, [(0, 0), (1, 1)]), "ab"),
         ((2, [(0, 0), (0, 1), (1, 1)]), "abc"), ((2, [(0, 0), (0, 0), (1, 1), (1, 1)]), "ab"),
         ((3, [(0, 1), (1, 2)]), "ab"), ((3, [(0, 1), (1, 2), (2, 0)]), "ab"), ((3, [(0, 1), (2, 2), (2, 2)]), "ab"),
         ((3, [(0, 2), (0, 2), (1, 1), (1, 1)]), "ab"), ((4, [(0, 2), (2, 0), (1, 3), (3, 1), (0, 0), (1, 1)]), "ab"),
         ((3, [(0, 0), (0, 0), (1, 1), (1, 1), (2, 2), (2, 2)]), "abc"), ((4, [(0, 1), (0, 2), (0, 3)]), "ab")]


class Counted(Checks):
    def settle(self, found, town, one, abouts):
        """All these standings, sorted, and no others are come to: each number, each standing."""
        self.check(len(found), how_many, town, one, abouts=abouts)
        for number, key in enumerate(found):
            self.assertEqual(frozen(standing_at(town, one, number, abouts=abouts)), key)
            self.assertEqual(number_of(town, one, thawed(key), abouts=abouts), number)


class Search(Counted):
    def test_each_number_and_each_standing(self):
        chance = random.Random(211)
        for town, names in TOWNS:
            keys = list(all_standings(town, names))
            for abouts in (True, False):
                for one in chance.sample(keys, 2):
                    found = sorted(come_to(town, one, names, abouts))
                    if len(found) < 600:
                        self.settle(found, town, thawed(one), abouts)

    def test_how_many_of_each(self):
        chance = random.Random(212)
        for town, names in TOWNS:
            keys = list(all_standings(town, names))
            for abouts in (True, False):
                for one in chance.sample(keys, min(10, len(keys))):
                    found = sorted(come_to(town, one, names, abouts))
                    self.check(len(found), how_many, town, thawed(one), abouts=abouts)
                    for number in {0, len(found) - 1, chance.randrange(len(found))}:
                        self.check(thawed(found[number]), standing_at, town, thawed(one), number, abouts=abouts)
                        self.check(number, number_of, town, thawed(one), thawed(found[number]), abouts=abouts)

    def test_others_are_refused(self):
        chance = random.Random(213)
        refused = 0
        for town, names in TOWNS:
            keys = list(all_standings(town, names))
            for abouts in (True, False):
                one = chance.choice(keys)
                found = come_to(town, one, names, abouts)
                near = [key for key in come_to(town, one, names) if key not in found]
                for other in chance.sample(keys, min(20, len(keys))) + near[:20]:
                    if other not in found:
                        self.refuse(NoPair, number_of, town, thawed(one), thawed(other), abouts=abouts)
                        refused += 1
        self.assertGreater(refused, 300)


class Told(Counted):
    def test_without_walkers(self):
        for town, one, _ in trials(40, 214):
            bare = (one[0], [])
            for abouts in (True, False):
                self.check(1, how_many, town, bare, abouts=abouts)
                self.check(bare, standing_at, town, bare, 0, abouts=abouts)
                self.check(0, number_of, town, bare, bare, abouts=abouts)

    def test_one_goer(self):
        """The document's example: one post, one goer, two roads."""
        town, one = (1, [(0, 0), (0, 0)]), ([(0, 0)], [("a", (1, 0))])
        self.check(8, how_many, town, one)
        self.check(4, how_many, town, one, abouts=False)
        ahead = [([(0, 0)], [("a", (1, 0))]), ([(0, 1)], [("a", (1, 1))]), ([(1, 0)], [("a", (0, 1))]),
                 ([(1, 1)], [("a", (0, 0))])]
        for number, other in enumerate(ahead):
            self.check(other, standing_at, town, one, number, abouts=False)
            self.check(number, number_of, town, one, other, abouts=False)
        self.check(([(0, 0)], [("a", (1, 1))]), standing_at, town, one, 1)
        self.check(3, number_of, town, one, ahead[1])

    def test_heaps_without_walkers_stay(self):
        town = (4, [(0, 0), (0, 0), (1, 2), (2, 1), (3, 3)])
        one = ([(0, 0), (3, 1), (2, 1), (4, 1)], [("a", (1, 0))])
        for abouts, many in ((True, 8), (False, 4)):
            self.check(many, how_many, town, one, abouts=abouts)
            for number in range(many):
                posts, _ = standing_at(town, one, number, abouts=abouts)
                self.assertEqual(posts[1:], one[0][1:])
        for place, end in ((1, (2, 0)), (2, (3, 0)), (3, (4, 0))):
            posts = [end if at == place else post for at, post in enumerate(one[0])]
            for abouts in (True, False):
                self.refuse(NoPair, number_of, town, one, (posts, one[1]), abouts=abouts)

    def test_heaps_between_one_another(self):
        """Their places and walkers take turns in the order of all."""
        town, _ = TOWNS[12]
        one = ([(0, 0), (2, 0), (1, 0), (3, 0)], [("a", (5, 0)), ("b", (4, 0))])
        for abouts in (True, False):
            found = sorted(come_to(town, frozen(one), "ab", abouts))
            self.assertEqual(len(second.heaps(town, one)), 2)
            self.check(len(found), how_many, town, one, abouts=abouts)
            for number in range(0, len(found), 7):
                self.check(thawed(found[number]), standing_at, town, one, number, abouts=abouts)
                self.check(number, number_of, town, one, thawed(found[number]), abouts=abouts)

    def test_what_is_left_out(self):
        town, one = (1, [(0, 0), (0, 0)]), ([(0, 0)], [("a", (1, 0))])
        turned = ([(0, 0)], [("a", (1, 1))])
        self.check(8, how_many, town, one)
        self.check(([(1, 1)], [("a", (0, 1))]), standing_at, town, one, 7)
        self.check(1, number_of, town, one, turned)
        self.refuse(NoPair, number_of, town, one, turned, abouts=False)

    def settle_drawn(self, chance, town, one, abouts):
        """The first, the last and drawn ones, there and back; tells how many there are."""
        many = how_many(town, one, abouts=abouts)
        ahead = None
        for number in sorted([0, 1, many - 2, many - 1] + [chance.randrange(many) for _ in range(4)]):
            told = self.told(standing_at, town, one, number, abouts=abouts)
            self.assertIsNone(bar_between(town, one, told, abouts=abouts))
            self.check(number, number_of, town, one, told, abouts=abouts)
            self.assertTrue(ahead is None or frozen(ahead) <= frozen(told))
            ahead = told
        self.refuse(NoNumber, standing_at, town, one, many, abouts=abouts)
        return many

    def test_great_towns_there_and_back(self):
        chance = random.Random(215)
        for town, one, other in full_lots(40, 216):
            for abouts in (True, False):
                many = self.settle_drawn(chance, town, one, abouts)
                if bar_between(town, one, other, abouts=abouts) is None:
                    number = self.told(number_of, town, one, other, abouts=abouts)
                    self.check(other, standing_at, town, one, number, abouts=abouts)
                    self.check(many, how_many, town, other, abouts=abouts)

    def test_most_of_a_million(self):
        chance = random.Random(221)
        town = (8, [(1, 5), (5, 5), (0, 0), (1, 7), (3, 3), (7, 7), (6, 2), (3, 2), (6, 6), (4, 0), (2, 4), (4, 1)])
        one = ([(2, 0), (0, 0), (7, 1), (4, 0), (9, 0), (1, 0), (8, 1), (3, 1)],
               [("a", (5, 0)), ("b", (6, 0)), ("c", (10, 0)), ("d", (11, 0))])
        self.assertEqual(self.settle_drawn(chance, town, one, True), 919296)
        self.assertEqual(self.settle_drawn(chance, town, one, False), 919296 // 2)
        # By steps and abouts each road's holder goes wherever it can: one by one, these are as many.
        self.assertEqual(919296, 24 * 2 ** 4 * self.count_posts(town))

    def count_posts(self, town):
        """In how many ways eight of the roads, each once, can be posts'."""
        ways = {frozenset(): 1}
        for place in range(8):
            behind = {}
            for roads, many in ways.items():
                for road, _ in [end for end in ends_of(town) if place_at(town, end) == place and end[0] not in roads]:
                    behind[roads | {road}] = behind.get(roads | {road}, 0) + many
            ways = behind
        return sum(ways.values())

    def test_half_of_them_for_each_clean_heap(self):
        """Without abouts each clean heap has half of what it has with them."""
        for town, one, _ in trials(200, 217):
            clean = second.clean_heaps(town, one)
            self.check(how_many(town, one) // 2 ** len(clean), how_many, town, one, abouts=False)

    def test_what_deeds_lead_to(self):
        for town, one, row in trials(200, 218):
            for abouts in (True, False):
                deeds = [deed for deed in row if abouts or deed[0] == "step"]
                other = walked(town, one, deeds)[-1]
                number = self.told(number_of, town, one, other, abouts=abouts)
                self.assertEqual(standing_at(town, one, number, abouts=abouts), other)


class Refusals(Counted):
    town = (1, [(0, 0), (0, 0)])
    one = ([(0, 0)], [("a", (1, 0))])

    def every(self, error, wrong, town, one, other=None, **more):
        lots = [(how_many, ()), (standing_at, (0,)), (standing_at, (HUGE,)), (standing_at, (None,))]
        lots = [(number_of, (other,))] if other is not None else lots + [(number_of, (self.one,))]
        for function, last in lots:
            if wrong is None:
                self.refuse(error, function, town, one, *last, **more)
            else:
                self.check_wrong(error, wrong, function, town, one, *last, **more)

    def test_no_town_then_no_standing_of_it_then_of_other(self):
        for abouts in (True, False, 0, None, HUGE):
            for town, wrong in ((None, ("town",)), ((0, []), ("places",)), ((2, [(0, 0)]), ("bare", 1))):
                self.every(NoTown, wrong, town, None, abouts=abouts)
                self.every(NoTown, wrong, town, self.one, HUGE, abouts=abouts)
            wrongs = [("none", ("standing",)), (([(0, 0)], [("a", (2, 0))]), ("walker", 0)), (([], []), ("posts",))]
            for (one, first), (other, behind) in itertools.product(wrongs, wrongs):
                self.every(NoStanding, first, self.town, one, abouts=abouts)
                self.every(NoStanding, first, self.town, one, other, abouts=abouts)
                self.every(NoStanding, behind, self.town, self.one, other, abouts=abouts)

    def test_no_choice(self):
        for abouts in (0, 1, None, -1, HUGE, "", "False", [], [False], (), (True,), nested(tuple, 100)):
            self.every(NoChoice, None, self.town, self.one, abouts=abouts)
            for other in (self.one, ([(0, 0)], []), ([(0, 0)], [("b", (1, 0))])):
                self.every(NoChoice, None, self.town, self.one, other, abouts=abouts)

    def test_no_number(self):
        for number in THINGS + [8, 4 * 2, 100, -2, -8, 10 ** 4500, -(10 ** 4500), "0", [0], (0,), nested(list, 100)]:
            if number in (0, 1) and not isinstance(number, bool):
                continue
            self.refuse(NoNumber, standing_at, self.town, self.one, number)
            self.refuse(NoNumber, standing_at, self.town, self.one, number, abouts=False)
        for number in (4, 7):
            self.told(standing_at, self.town, self.one, number)
            self.refuse(NoNumber, standing_at, self.town, self.one, number, abouts=False)
        for number in (True, False, 1, -1):
            self.refuse(NoNumber, standing_at, self.town, ([(0, 0)], []), number)

    def test_no_pair(self):
        for other in (([(0, 0)], []), ([(0, 0)], [("b", (1, 0))]), ([(0, 0)], [("a", (1, 0)), ("b", (1, 0))]),
                      ([(0, 0)], [("a", (0, 0))]), ([(1, 0)], [("a", (1, 0))])):
            for abouts in (True, False):
                self.refuse(NoPair, number_of, self.town, self.one, other, abouts=abouts)
        self.refuse(NoPair, number_of, self.town, self.one, ([(0, 0)], [("a", (1, 1))]), abouts=False)
        town = (2, [(0, 0), (0, 0), (1, 1), (1, 1)])
        one = ([(0, 0), (2, 0)], [("a", (1, 0)), ("b", (3, 0))])
        self.refuse(NoPair, number_of, town, one, ([(0, 0), (2, 0)], [("a", (3, 0)), ("b", (1, 0))]))
        self.refuse(NoPair, number_of, town, (one[0], one[1][:1]), ([(0, 0), (2, 1)], one[1][:1]))

    def test_drawn_pairs(self):
        """Refused just where a paper is due."""
        chance = random.Random(219)
        for town, one, _ in trials(150, 220):
            other = (some_standing(chance, town)[0], one[1])
            for abouts in (True, False):
                if bar_between(town, one, other, abouts=abouts) is not None:
                    self.refuse(NoPair, number_of, town, one, other, abouts=abouts)

    def test_by_its_name_alone(self):
        for function, last in ((how_many, ()), (standing_at, (0,)), (number_of, (self.one,))):
            with self.assertRaises(TypeError):
                function(self.town, self.one, *last, True)


if __name__ == "__main__":
    unittest.main()
