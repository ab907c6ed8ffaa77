"""Who must go (promise [20])."""

import itertools
import random
import unittest

from cameposts.bars import bar_between
from cameposts.errors import NoChoice, NoStanding, NoTown
from cameposts.needed import least_goers
from tests.checks import HUGE, Checks, nested
from tests.search import all_standings, come_to, deed_done, thawed
from tests.walks import some_standing, trials, walked


def least_of(lots):
    """Of the lots, in their order, those of which no part is one of them."""
    return [lot for lot in lots if not any(set(part) < set(lot) for part in lots)]


def lots_of(names):
    return [list(lot) for many in range(len(names) + 1) for lot in itertools.combinations(names, many)]


class Needed(Checks):
    def test_the_same(self):
        for town, one, _ in trials(40, 201):
            for abouts in (True, False):
                self.check([[]], least_goers, town, one, one, abouts=abouts)
            self.check([[]], least_goers, town, one, one)

    def test_empty_where_not_even_all_can(self):
        town = (2, [(0, 0), (0, 0), (1, 1)])
        one = ([(0, 0), (2, 0)], [("a", (1, 0))])
        for other in (([(0, 0), (2, 1)], one[1]), ([(0, 0), (2, 0)], [("a", (0, 0))]), ([(0, 0), (2, 0)], []),
                      ([(0, 0), (2, 0)], [("b", (1, 0))]), ([(0, 0), (2, 0)], [("a", (1, 0)), ("b", (1, 0))])):
            for abouts in (True, False):
                self.check([], least_goers, town, one, other, abouts=abouts)
        turned = ([(0, 1), (2, 0)], one[1])
        self.check([], least_goers, town, one, turned, abouts=False)
        self.check([["a"]], least_goers, town, one, turned)

    def test_the_order_of_the_lots(self):
        """Shorter ones first, then in the order of lists."""
        town = (1, [(0, 0)] * 6)
        names = ("a", "aa", "b", "c")
        one = ([(0, 0)], [(name, (1 + at, 0)) for at, name in enumerate(names)])
        # The post alone is another way round: each of them can make it so by an about, two of them without.
        other = ([(0, 1)], one[1])
        self.check([[name] for name in names], least_goers, town, one, other)
        self.check([], least_goers, town, one, other, abouts=False)
        other = ([(0, 1)], one[1][:1] + [("aa", (2, 1))] + one[1][2:])
        self.check([["aa"]], least_goers, town, one, other)
        self.check([["aa"]], least_goers, town, one, other, abouts=False)
        # Both rings are turned by z alone, or each by the one that stands on it.
        town = (2, [(0, 0), (1, 1), (0, 1)])
        one = ([(0, 0), (1, 0)], [("a", (0, 0)), ("b", (1, 0)), ("z", (2, 0))])
        for abouts in (True, False):
            self.check([["z"], ["a", "b"]], least_goers, town, one, ([(0, 1), (1, 1)], one[1]), abouts=abouts)

    def test_one_that_ends_as_it_began_and_yet_must_go(self):
        town = (2, [(0, 0), (0, 1), (1, 1), (1, 1)])
        one = ([(0, 0), (2, 0)], [("a", (1, 0)), ("b", (3, 0))])
        # Between the two rings there is a's road alone.
        other = ([(0, 1), (2, 0)], [("a", (1, 0)), ("b", (3, 1))])
        self.check([["a", "b"]], least_goers, town, one, other, abouts=False)
        self.check([["a", "b"]], least_goers, town, one, other, abouts=True)

    def test_by_a_search_for_each_lot(self):
        chance = random.Random(202)
        met = {}
        for town, names in (((1, [(0, 0), (0, 0)]), "abc"), ((1, [(0, 0), (0, 0), (0, 0)]), "ab"), ((2, [(0, 1)]), "abc"),
                            ((2, [(0, 1), (0, 1)]), "ab"), ((2, [(0, 0), (0, 1), (1, 1)]), "ab"),
                            ((3, [(0, 1), (1, 2)]), "ab"), ((3, [(0, 1), (1, 2), (2, 0)]), "ab"),
                            ((2, [(0, 0), (0, 0), (1, 1), (1, 1)]), "ab"), ((3, [(0, 1), (1, 2), (2, 0), (0, 0)]), "a")):
            keys = list(all_standings(town, names))
            for one in chance.sample(keys, min(6, len(keys))):
                for abouts in (True, False):
                    comes = [(lot, come_to(town, one, lot, abouts)) for lot in lots_of(names)]
                    for other in self.some_others(chance, town, one, names, keys):
                        least = least_of([lot for lot, found in comes if other in found])
                        self.assertSame(least_goers(town, thawed(one), thawed(other), abouts=abouts), least)
                        shape = tuple(len(lot) for lot in least)
                        met[shape] = met.get(shape, 0) + 1
        for shape in ((), (0,), (1,), (2,), (1, 1), (3,)):
            self.assertGreater(met.get(shape, 0), 4, (shape, met))

    def some_others(self, chance, town, one, names, keys):
        for _ in range(6):
            yield chance.choice(keys)
            for lot in lots_of(names):
                other = one
                for _ in range(chance.randint(0, 12) if lot else 0):
                    other = deed_done(town, other, chance.choice(("step", "step", "about")), chance.choice(lot))
                yield other

    def test_larger_towns(self):
        """As bar_between tells for each lot; what deeds lead to, some of those who did them can do."""
        chance = random.Random(203)
        for town, one, row in trials(150, 204):
            names = [name for name, _ in one[1]]
            some = chance.sample(names, chance.randint(0, len(names)))
            deeds = [deed for deed in row if deed[1] in some]
            for other in (walked(town, one, deeds)[-1], some_standing(chance, town, names)):
                for abouts in (True, False):
                    lots = [lot for lot in lots_of(names)
                            if bar_between(town, one, other, goers=lot, abouts=abouts) is None]
                    self.check(least_of(lots), least_goers, town, one, other, abouts=abouts)
            least = least_goers(town, one, walked(town, one, deeds)[-1])
            self.assertTrue([lot for lot in least if set(lot) <= {name for _, name in deeds}])


class Refusals(Checks):
    town = (2, [(0, 1), (0, 0)])
    one = ([(0, 0), (0, 1)], [("a", (1, 0))])

    def test_no_town_then_no_standing_of_one_then_of_other(self):
        for abouts in (True, False, 0, None, HUGE):
            for town, wrong in ((None, ("town",)), ((2, [(0, 1), (0, 2)]), ("road", 1))):
                self.check_wrong(NoTown, wrong, least_goers, town, None, HUGE, abouts=abouts)
            wrongs = [(None, ("standing",)), ((self.one[0], [("a", (2, 0))]), ("walker", 0))]
            for (one, first), (other, behind) in itertools.product(wrongs, wrongs):
                self.check_wrong(NoStanding, first, least_goers, self.town, one, other, abouts=abouts)
                self.check_wrong(NoStanding, behind, least_goers, self.town, self.one, other, abouts=abouts)

    def test_no_choice(self):
        for abouts in (0, 1, None, -1, HUGE, "", "True", [], [True], (), (True,), nested(list, 100)):
            for other in (self.one, (self.one[0], [])):
                self.refuse(NoChoice, least_goers, self.town, self.one, other, abouts=abouts)

    def test_by_its_name_alone(self):
        with self.assertRaises(TypeError):
            least_goers(self.town, self.one, self.one, True)


if __name__ == "__main__":
    unittest.main()
