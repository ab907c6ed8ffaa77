"""Questions and the papers that show that no row leads there (promises [15] and [16])."""

import itertools
import random
import unittest

from cameposts.bars import bar_between, bar_shows
from cameposts.errors import NoChoice, NoGoers, NoStanding, NoTown
from tests import second
from tests.checks import HUGE, THINGS, Checks, nested
from tests.search import all_standings, deed_done, parts_of_all, thawed
from tests.walks import some_standing, trials, walked

# Two places, two roads between them and one that leads back to each; and a third place by itself.
TOWN = (3, [(0, 1), (1, 0), (0, 0), (1, 1), (2, 2), (2, 2)])
ONE = ([(0, 0), (3, 0), (4, 0)], [("a", (2, 0)), ("b", (1, 1)), ("c", (0, 1))])

NO_PAPERS = THINGS + [
    ("names", None), ("names", 0), ("names", "a"), ("NAMES",), "names", ["names"], [("names",)], (("names",),),
    ("held",), ("held", 6), ("held", -1), ("held", True), ("held", False), ("held", "a"), ("held", 0, 0), ["held", 0],
    ("held", HUGE), ("held", (0,)), ("held", [0]), ("still", True), ("still", False), ("still", 3), ("still", "0"),
    ("sign", True), ("sign", False), ("sign", None), ("other",), ("other", None), ("other", "x"), ("other", 0),
    ("other", ["a"]), ("walker", "x"), ("walker", True), ("walker", 0), ("walker", "abc"), (0, "held"), ("a", "walker"),
    (None, 0), ("road", 0), ("place", 0), ("held", nested(tuple, 90)), (nested(list, 90), 0),
]


class Lot(Checks):
    def settle(self, papers, town, one, other, **more):
        """These papers are due and no others."""
        self.check(papers[0] if papers else None, bar_between, town, one, other, **more)
        for paper in papers:
            self.check(True, bar_shows, town, one, other, paper, **more)
        for paper in second.every_paper(town, sorted({name for name, _ in one[1] + other[1]})):
            self.assertIs(bar_shows(town, one, other, paper, **more), paper in papers)


def swap(standing, place=None, end=None, **faces):
    """The standing with another post, and with walkers that face other ends."""
    posts = [end if at == place else post for at, post in enumerate(standing[0])]
    return (posts, [(name, faces.get(name, face)) for name, face in standing[1]])


class Papers(Lot):
    def test_none(self):
        for goers in (None, [], ["a"], ["b", "c"], ["a", "b", "c"]):
            for abouts in (True, False):
                self.settle([], TOWN, ONE, ONE, goers=goers, abouts=abouts)
        self.settle([], TOWN, ONE, swap(ONE, a=(2, 1)))
        self.settle([], TOWN, ONE, swap(ONE, a=(2, 1)), goers=["a"])

    def test_names(self):
        for walkers in ([], ONE[1][:2], ONE[1][1:], ONE[1] + [("d", (0, 0))],
                        [("a", (2, 0)), ("b", (1, 1)), ("d", (0, 1))]):
            other = (ONE[0], walkers)
            for goers in (None, [], ["a", "c"]):
                for abouts in (True, False):
                    self.settle([("names",)], TOWN, ONE, other, goers=goers, abouts=abouts)
            self.settle([("names",)], TOWN, other, ONE)
        # Whatever else is unlike, too.
        self.settle([("names",)], TOWN, ONE, ([(2, 0), (3, 1), (5, 0)], [("a", (4, 0)), ("c", (4, 0))]), goers=[])

    def test_other(self):
        self.settle([("other", "a")], TOWN, ONE, swap(ONE, a=(2, 1)), goers=["b", "c"])
        self.settle([("other", "a"), ("other", "c")], TOWN, ONE, swap(ONE, a=(2, 1), c=(3, 0)), goers=["b"])
        self.settle([("other", "a"), ("other", "b"), ("other", "c")], TOWN, ONE,
                    swap(ONE, a=(2, 1), b=(1, 0), c=(5, 0)), goers=[])
        self.settle([("other", "b")], TOWN, ONE, swap(ONE, a=(2, 1), b=(0, 0)), goers=["a", "c"])

    def test_held(self):
        self.settle([("held", 0), ("held", 2)], TOWN, ONE, swap(ONE, c=(2, 1)))
        self.settle([("held", 4), ("held", 5), ("still", 2)], TOWN, ONE, swap(ONE, 2, (5, 1)))
        self.settle([("held", 0), ("held", 1), ("still", 0)], TOWN, ONE, swap(ONE, 0, (1, 1)), goers=[])
        # Held otherwise by those who are no goers alone.
        self.settle([("other", "c")], TOWN, ONE, swap(ONE, c=(2, 1)), goers=["a", "b"])
        # Held alike by all, but not by the goers' views.
        self.settle([("other", "a"), ("held", 0), ("held", 2)], TOWN, ONE, swap(ONE, a=(0, 1), c=(2, 0)),
                    goers=["b", "c"])

    def test_walker(self):
        town = (2, [(0, 0), (0, 0), (1, 1), (1, 1), (0, 1)])
        one = ([(0, 0), (2, 0)], [("a", (1, 0)), ("b", (3, 0))])
        crossed = (one[0], [("a", (3, 0)), ("b", (1, 0))])
        self.settle([("walker", "a"), ("walker", "b")], town, one, crossed)
        self.settle([("walker", "a"), ("walker", "b")], town, one, crossed, abouts=False)
        # The heap itself is another one.
        joined = (one[0], [("a", (1, 0)), ("b", (4, 0))])
        self.settle([("held", 3), ("held", 4), ("walker", "a"), ("walker", "b")], town, one, joined)
        self.settle([("other", "b")], town, one, joined, goers=["a"])
        self.settle([("other", "a"), ("held", 1), ("held", 3), ("walker", "b"), ("still", 0)], town, one,
                    ([(0, 1), (2, 1)], crossed[1]), goers=["b"])

    def test_still(self):
        town = (4, [(0, 0), (1, 1), (1, 2), (2, 1), (3, 3)])
        one = ([(0, 0), (2, 0), (2, 1), (4, 0)], [("a", (4, 0)), ("b", (0, 0))])
        self.settle([("still", 0)], town, one, swap(one, 0, (0, 1)), goers=["a"])
        self.settle([], town, one, swap(one, 0, (0, 1)), goers=["b"])
        self.settle([("still", 3)], town, one, swap(one, 3, (4, 1)), goers=["b"])
        self.settle([("held", 2), ("held", 3), ("still", 1), ("still", 2)], town, one,
                    ([(0, 1), (3, 1), (3, 0), (4, 1)], one[1]))
        # By the view of one: there the places are in no goer's heap, in the other's they are.
        other = ([(0, 0), (1, 0), (2, 1), (4, 0)], [("a", (2, 0)), ("b", (0, 0))])
        self.settle([("held", 1), ("held", 4), ("walker", "a"), ("still", 1)], town, one, other)
        self.settle([("held", 1), ("held", 4), ("walker", "a"), ("still", 3)], town, other, swap(one, 3, (4, 1)))

    def test_sign(self):
        one = (ONE[0], ONE[1][:2])
        turned = swap(one, a=(2, 1))
        self.settle([("sign", 0)], TOWN, one, turned, abouts=False)
        self.settle([], TOWN, one, turned, abouts=True)
        self.settle([], TOWN, one, swap(one, a=(2, 1), b=(1, 0)), abouts=False)
        # A third one that is no goer makes nothing of it, wherever it stands; as a goer it makes the heap unclean.
        self.settle([("sign", 0)], TOWN, ONE, swap(ONE, a=(2, 1)), goers=["a", "b"], abouts=False)
        self.settle([], TOWN, ONE, swap(ONE, a=(2, 1)), abouts=False)
        # Not where a paper of another sort is due.
        self.settle([("other", "c")], TOWN, ONE, swap(ONE, a=(2, 1), c=(5, 0)), goers=["a", "b"], abouts=False)

    def test_goers_alone_stand_in_the_line(self):
        town = (1, [(0, 0)] * 4)
        one = ([(1, 0)], [("a", (2, 0)), ("b", (0, 0)), ("c", (3, 1))])
        self.settle([], town, one, ([(2, 0)], [("a", (1, 1)), ("b", (0, 0)), ("c", (3, 1))]), goers=["a"], abouts=False)
        self.settle([("sign", 0)], town, one, ([(2, 0)], [("a", (1, 0)), ("b", (0, 0)), ("c", (3, 1))]),
                    goers=["a"], abouts=False)

    def test_signs_of_several_heaps(self):
        town = (3, [(0, 0), (0, 0), (1, 1), (1, 1), (2, 2), (2, 2)])
        one = ([(0, 0), (2, 0), (4, 0)], [("a", (1, 0)), ("b", (3, 0)), ("c", (5, 0))])
        self.settle([("sign", 0), ("sign", 1), ("sign", 2)], town, one, swap(one, a=(1, 1), b=(3, 1), c=(5, 1)),
                    abouts=False)
        self.settle([("sign", 1)], town, one, swap(one, b=(3, 1)), abouts=False)
        self.settle([("sign", 1), ("sign", 2)], town, one, swap(one, 1, (2, 1), c=(5, 1)), goers=["b", "c"],
                    abouts=False)

    def test_what_is_left_out(self):
        """goers None are all; abouts is True where it is left out."""
        one = (ONE[0], ONE[1][:2])
        turned = swap(one, a=(2, 1))
        self.settle([], TOWN, one, turned)
        self.settle([], TOWN, one, turned, goers=None)
        self.settle([("sign", 0)], TOWN, one, turned, goers=None, abouts=False)
        self.settle([("sign", 0)], TOWN, one, turned, goers=["a", "b"], abouts=False)

    def test_whichever_is_due(self):
        """The document's words, paper by paper, on drawn questions; and the first of them in the order of sorts."""
        chance = random.Random(161)
        sorts = {}
        for town, one, row in trials(600, 162):
            names = [name for name, _ in one[1]]
            other = walked(town, one, row)[-1] if chance.random() < 0.6 else some_standing(chance, town, names)
            if len(other[1]) < len(names) and chance.random() < 0.8:
                other = (other[0], one[1])
            if chance.random() < 0.2:
                other = (some_standing(chance, town)[0], other[1])
            goers = chance.choice([None, None, sorted(chance.sample(names, chance.randint(0, len(names))))])
            abouts = chance.random() < 0.3
            papers = second.due(town, one, other, goers, abouts)
            self.settle(papers, town, one, other, goers=goers, abouts=abouts)
            for sort in {paper[0] for paper in papers}:
                sorts[sort] = sorts.get(sort, 0) + 1
        for sort in ("names", "other", "held", "walker", "still", "sign"):
            self.assertGreater(sorts.get(sort, 0), 4, sort)

    def test_signs_of_drawn_questions(self):
        """Rows of goers with abouts, in towns with clean heaps: the signs alone tell whether abouts are needed."""
        chance = random.Random(166)
        due = 0
        for town, one, row in trials(600, 167):
            names = [name for name, _ in one[1]]
            goers = sorted(chance.sample(names, chance.randint(min(1, len(names)), len(names))))
            if not second.clean_heaps(town, second.view(one, goers)):
                continue
            other = walked(town, one, [deed for deed in row if deed[1] in goers])[-1]
            papers = second.due(town, one, other, goers, False)
            self.assertLessEqual({paper[0] for paper in papers}, {"sign"})
            self.settle(papers, town, one, other, goers=goers, abouts=False)
            self.settle([], town, one, other, goers=goers)
            due += len(papers)
        self.assertGreater(due, 40)


class NoPapers(Lot):
    def test_anything(self):
        lots = [(ONE, ONE, {}), (ONE, (ONE[0], ONE[1][:2]), {}), (ONE, swap(ONE, a=(2, 1)), {"goers": ["b"]}),
                (ONE, ([(1, 1), (3, 1), (5, 0)], [("a", (4, 0)), ("b", (2, 0)), ("c", (5, 1))]), {"goers": ["a", "c"]}),
                (ONE, swap(ONE, a=(2, 1)), {"goers": ["a", "b"], "abouts": False})]
        for one, other, more in lots:
            for thing in NO_PAPERS:
                self.check(False, bar_shows, TOWN, one, other, thing, **more)

    def test_a_truth_is_no_road_and_no_place(self):
        """Python holds True to be 1 and False to be 0."""
        town = (2, [(0, 0), (1, 1), (0, 0), (1, 1)])
        one, other = ([(0, 0), (1, 0)], []), ([(2, 0), (3, 0)], [])
        self.settle([("held", 0), ("held", 1), ("held", 2), ("held", 3), ("still", 0), ("still", 1)], town, one, other)
        for sort in ("held", "still", "sign"):
            for truth in (True, False):
                self.check(False, bar_shows, town, one, other, (sort, truth))
        one = ([(0, 0), (1, 0)], [("a", (2, 0)), ("b", (3, 0))])
        turned = swap(one, a=(2, 1), b=(3, 1))
        self.settle([("sign", 0), ("sign", 1)], town, one, turned, abouts=False)
        for truth in (True, False):
            self.check(False, bar_shows, town, one, turned, ("sign", truth), abouts=False)


class Search(Lot):
    """A paper is due just where no row of the goers' deeds leads there, in small towns."""

    towns = [((1, [(0, 0)]), "ab"), ((1, [(0, 0), (0, 0)]), "ab"), ((2, [(0, 1)]), "ab"), ((2, [(0, 1), (1, 0)]), "ab"),
             ((2, [(0, 0), (1, 1)]), "ab"), ((2, [(0, 0), (0, 1), (1, 1)]), "ab"),
             ((2, [(0, 0), (0, 0), (1, 1)]), "ab"),
             ((3, [(0, 1), (1, 2)]), "ab"), ((3, [(0, 1), (1, 2), (2, 0)]), "ab"),
             ((3, [(0, 1), (2, 2), (2, 2)]), "ab"),
             ((3, [(0, 1), (1, 2), (2, 0), (0, 0)]), "a"), ((4, [(0, 1), (1, 2), (2, 3), (3, 0)]), "a"),
             ((1, [(0, 0), (0, 0)]), "abc"), ((2, [(0, 1), (0, 1)]), "abc"), ((4, [(0, 1), (0, 2), (0, 3)]), "ab")]

    def pairs(self, chance, town, names, keys):
        """Drawn pairs, half of them such that deeds of anyone lead from the one to the other."""
        for _ in range(120):
            one = chance.choice(keys)
            yield one, chance.choice(keys)
            other = one
            for _ in range(chance.randint(0, 10)):
                other = deed_done(town, other, chance.choice(("step", "about")), chance.choice(names))
            yield one, other

    def test_just_where_none_leads_there(self):
        chance = random.Random(163)
        none, some = 0, 0
        for town, names in self.towns:
            keys = list(all_standings(town, names))
            for many, abouts in itertools.product(range(len(names) + 1), (True, False)):
                for goers in itertools.combinations(names, many):
                    part_of = parts_of_all(town, names, goers, abouts)
                    for one, other in self.pairs(chance, town, names, keys):
                        told = bar_between(town, thawed(one), thawed(other), goers=list(goers), abouts=abouts)
                        self.assertEqual(told is None, part_of[one] == part_of[other],
                                         (town, one, other, goers, abouts))
                        if many == len(names):
                            again = bar_between(town, thawed(one), thawed(other), abouts=abouts)
                            self.assertSame(again, told)
                        none, some = none + (told is None), some + (told is not None)
        self.assertGreater(min(none, some), 2000)

    def test_every_pair(self):
        for town, names in (((1, [(0, 0), (0, 0)]), "a"), ((2, [(0, 1)]), "ab"), ((2, [(0, 1), (0, 1)]), "a"),
                            ((2, [(0, 0), (0, 1)]), "a")):
            keys = list(all_standings(town, names))
            for abouts in (True, False):
                part_of = parts_of_all(town, names, names, abouts)
                for one, other in itertools.product(keys, repeat=2):
                    told = bar_between(town, thawed(one), thawed(other), abouts=abouts)
                    self.assertEqual(told is None, part_of[one] == part_of[other], (town, one, other, abouts))

    def test_what_deeds_lead_to_in_larger_towns(self):
        for town, one, row in trials(200, 165):
            goers = sorted({name for _, name in row})
            behind = walked(town, one, row)[-1]
            self.settle([], town, one, behind, goers=goers)
            self.check(None, bar_between, town, behind, one, goers=None)
            steps = [deed for deed in row if deed[0] == "step"]
            behind = walked(town, one, steps)[-1]
            self.settle([], town, one, behind, goers=goers, abouts=False)


class Refusals(Lot):
    def every(self, error, wrong, town, one, other, **more):
        papers = (("names",), ("held", 0), None, nested(list, 100))
        for function, last in [(bar_between, ())] + [(bar_shows, (paper,)) for paper in papers]:
            if wrong is None:
                self.refuse(error, function, town, one, other, *last, **more)
            else:
                self.check_wrong(error, wrong, function, town, one, other, *last, **more)

    def test_no_town_ahead_of_all(self):
        for town, wrong in ((None, ("town",)), ((0, []), ("places",)), ((3, ()), ("roads",)),
                            ((3, [[0, 1]]), ("road", 0)),
                            ((4, TOWN[1]), ("bare", 3))):
            self.every(NoTown, wrong, town, ONE, ONE)
            self.every(NoTown, wrong, town, None, HUGE, goers=7, abouts=None)

    def test_no_standing_of_one_then_of_other(self):
        wrongs = [(None, ("standing",)), ((ONE[0][:1], []), ("posts",)), ((ONE[0][:2] + [(0, 0)], []), ("post", 2)),
                  ((ONE[0], [("a", (6, 0))]), ("walker", 0))]
        for (one, first), (other, behind) in itertools.product(wrongs, wrongs):
            self.every(NoStanding, first, TOWN, one, other, goers=None, abouts=0)
            self.every(NoStanding, first, TOWN, one, ONE, goers="abc")
            self.every(NoStanding, behind, TOWN, ONE, other, goers=("a",), abouts=None)

    bad_goers = [(), ("a",), ("a", "b"), "", "a", "ab", True, False, 0, HUGE, ["x"], ["a", "x"], ["a", "a"], ["b", "a"],
                 ["a", "c", "b"], ["a", "b", "c", "c"], [None], ["a", None], [["a"]], [("a",)], [True], [0], [HUGE],
                 [""], ["abc"], [ONE[1][0]], ["A"], nested(list, 100), ["a", nested(tuple, 90)], ["a"] * 5000]

    def test_no_goers(self):
        for goers in self.bad_goers:
            self.every(NoGoers, None, TOWN, ONE, ONE, goers=goers)
            for abouts in (False, 0, None, "x"):
                self.every(NoGoers, None, TOWN, ONE, (ONE[0], []), goers=goers, abouts=abouts)

    def test_goers_are_names_of_ones_walkers(self):
        fewer = (ONE[0], ONE[1][:2])
        self.every(NoGoers, None, TOWN, fewer, ONE, goers=["c"])
        self.settle([("names",)], TOWN, ONE, fewer, goers=["c"])
        self.every(NoGoers, None, TOWN, (ONE[0], []), ONE, goers=["a"])

    def test_no_choice(self):
        for abouts in (0, 1, None, -1, HUGE, "", "True", [], [True], (), (False,), nested(list, 100)):
            for goers in (None, [], ["a", "c"]):
                self.every(NoChoice, None, TOWN, ONE, ONE, goers=goers, abouts=abouts)
                self.every(NoChoice, None, TOWN, ONE, (ONE[0], []), goers=goers, abouts=abouts)

    def test_by_their_names_alone(self):
        for more in ((None,), (["a"], True)):
            with self.assertRaises(TypeError):
                bar_between(TOWN, ONE, ONE, *more)
            with self.assertRaises(TypeError):
                bar_shows(TOWN, ONE, ONE, ("names",), *more)


if __name__ == "__main__":
    unittest.main()
