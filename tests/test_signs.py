"""Signs of clean heaps, and two standings of one holding (promises [13] and [14])."""

import random
import unittest

from cameposts.deeds import led_by
from cameposts.errors import NoPair, NoPlace, NoStanding, NoTown
from cameposts.signs import evens_between, sign_of, unlike_signs
from tests import second
from tests.checks import HUGE, THINGS, Checks, nested
from tests.search import all_standings, thawed
from tests.walks import ends_of, some_standing, some_town, trials, walked

# Two places with two roads between them and one that leads back to each.
TOWN = (2, [(0, 1), (1, 0), (0, 0), (1, 1)])
ONE = ([(0, 0), (3, 0)], [("a", (2, 0)), ("b", (1, 1))])

WRONG_TOWNS = [(None, ("town",)), ((True, [(0, 0)]), ("places",)), ((2, []), ("roads",)), ((2, [(0, 2)]), ("road", 0)),
               ((3, TOWN[1]), ("bare", 2))]
WRONG_STANDINGS = [(None, ("standing",)), (list(ONE), ("standing",)), ((ONE[0][:1], []), ("posts",)),
                   (([(0, 0), (0, 0)], []), ("post", 1)), ((ONE[0], [("a", (4, 0))]), ("walker", 0))]


def clean_lots(many, seed):
    """Towns with standings and rows of which at least one heap is clean."""
    return [lot for lot in trials(many, seed) if second.clean_heaps(lot[0], lot[1])]


class SignOf(Checks):
    def test_by_hand(self):
        """The line holds 0, 3, 2, 1: three exchanged; a faces an end (r, 0): four -1s, an even number."""
        self.check(1, sign_of, TOWN, ONE, 0)
        self.check(1, sign_of, TOWN, ONE, 1)
        self.check(-1, sign_of, TOWN, (ONE[0], [("a", (2, 1)), ("b", (1, 1))]), 0)
        self.check(-1, sign_of, TOWN, (ONE[0], [("a", (2, 0)), ("b", (1, 0))]), 0)
        self.check(1, sign_of, TOWN, (ONE[0], [("a", (2, 1)), ("b", (1, 0))]), 0)
        self.check(-1, sign_of, TOWN, ([(0, 0), (3, 1)], ONE[1]), 1)
        self.check(1, sign_of, TOWN, ([(1, 1), (0, 1)], [("a", (2, 0))]), 0)

    def test_one_place(self):
        town = (1, [(0, 0), (0, 0)])
        for post in ends_of(town):
            for face in ends_of(town):
                told = None
                if post[0] != face[0]:
                    told = (-1) ** ((post[0] > face[0]) + post[1] + (1 - face[1]))
                self.check(told, sign_of, town, ([post], [("a", face)]), 0)

    def test_held_twice_somewhere(self):
        self.check(None, sign_of, TOWN, (ONE[0], [("a", (2, 0)), ("b", (3, 1))]), 0)
        self.check(None, sign_of, TOWN, (ONE[0], [("a", (1, 0)), ("b", (1, 1))]), 1)
        self.check(None, sign_of, TOWN, ([(0, 0), (0, 1)], [("a", (1, 0))]), 0)
        self.check(None, sign_of, (1, [(0, 0)]), ([(0, 0)], [("a", (0, 0))]), 0)

    def test_held_twice_in_another_heap(self):
        town = (3, [(0, 0), (0, 0), (1, 2), (1, 1)])
        standing = ([(0, 0), (2, 0), (2, 1)], [("a", (1, 1)), ("b", (3, 0))])
        self.check(1, sign_of, town, standing, 0)
        self.check(None, sign_of, town, standing, 1)
        self.check(None, sign_of, town, standing, 2)

    def test_without_a_walker(self):
        self.check(None, sign_of, TOWN, (ONE[0], []), 0)
        standing = ([(2, 0), (3, 0)], [("a", (0, 1))])
        self.check(None, sign_of, (3, TOWN[1] + [(2, 2)]), (standing[0] + [(4, 0)], standing[1]), 2)
        self.check(1, sign_of, (3, TOWN[1] + [(2, 2)]), (standing[0] + [(4, 0)], standing[1]), 1)

    def test_in_a_second_way(self):
        told = []
        for town, standing, _ in clean_lots(300, 131) + list(trials(60, 132)):
            clean = second.clean_heaps(town, standing)
            for heap in second.heaps(town, standing):
                sign = second.sign(town, standing, heap) if heap in clean else None
                told.append(sign)
                for place in heap:
                    self.check(sign, sign_of, town, standing, place)
        for sign in (1, -1, None):
            self.assertGreater(told.count(sign), 30)

    def test_a_step_leaves_it_and_an_about_changes_that_of_its_heap_alone(self):
        for town, standing, row in clean_lots(200, 133):
            signs = [sign_of(town, standing, place) for place in range(town[0])]
            for (word, name), passed in zip(row, walked(town, standing, row)[1:]):
                if word == "about":
                    heap = second.home(town, standing, name)
                    signs = [-sign if sign and place in heap else sign for place, sign in enumerate(signs)]
                self.assertSame([sign_of(town, passed, place) for place in range(town[0])], signs)

    def test_no_place(self):
        for place in (-1, 2, HUGE, -HUGE, True, False, None, "", "0", [0], (0,), nested(list, 100)):
            self.refuse(NoPlace, sign_of, TOWN, ONE, place)

    def test_no_place_behind_all_else(self):
        for place in (0, 2, True, None):
            for town, wrong in WRONG_TOWNS:
                self.check_wrong(NoTown, wrong, sign_of, town, ONE, place)
                self.check_wrong(NoTown, wrong, sign_of, town, None, place)
            for standing, wrong in WRONG_STANDINGS:
                self.check_wrong(NoStanding, wrong, sign_of, TOWN, standing, place)


class Pairs(Checks):
    def test_by_hand(self):
        self.check([], unlike_signs, TOWN, ONE, ONE)
        self.check({0: True}, evens_between, TOWN, ONE, ONE)
        turned = (ONE[0], [("a", (2, 1)), ("b", (1, 1))])
        self.check([0], unlike_signs, TOWN, ONE, turned)
        self.check({0: True}, evens_between, TOWN, ONE, turned)
        stepped = led_by(TOWN, ONE, [("step", "a")])
        self.check([], unlike_signs, TOWN, ONE, stepped)
        self.check({0: False}, evens_between, TOWN, ONE, stepped)
        self.check([0], unlike_signs, TOWN, turned, stepped)
        self.check({0: False}, evens_between, TOWN, turned, stepped)

    def test_told_where_no_row_leads_there_too(self):
        """The roads of the line may be exchanged oddly, whatever faces whatever."""
        other = ([(1, 1), (3, 0)], [("a", (2, 0)), ("b", (0, 1))])
        self.check({0: False}, evens_between, TOWN, ONE, other)
        still = (3, TOWN[1] + [(2, 2)])
        one, two = (ONE[0] + [(4, 0)], ONE[1]), (other[0] + [(4, 1)], other[1])
        self.check({0: False}, evens_between, still, one, two)

    def test_heaps_that_are_not_clean_or_without_walkers(self):
        town = (4, [(0, 0), (1, 1), (2, 2), (2, 2), (3, 3), (3, 3)])
        one = ([(0, 0), (1, 0), (2, 0), (4, 0)], [("a", (1, 0)), ("b", (3, 0)), ("c", (5, 0))])
        other = ([(0, 1), (1, 1), (3, 0), (4, 0)], [("a", (1, 1)), ("b", (2, 0)), ("c", (5, 1))])
        self.check({2: False, 3: True}, evens_between, town, one, other)
        self.check([2, 3], unlike_signs, town, one, other)
        self.check([3], unlike_signs, town, one, (other[0][:2] + [(3, 1)] + other[0][3:], other[1]))
        self.check({}, evens_between, town, (one[0], one[1][:1]), (other[0][:2] + one[0][2:], other[1][:1]))
        self.check([], unlike_signs, town, (one[0], one[1][:1]), (other[0][:2] + one[0][2:], other[1][:1]))

    def compare(self, town, one, other):
        clean = second.clean_heaps(town, one)
        unlike = [heap[0] for heap in clean if second.sign(town, one, heap) != second.sign(town, other, heap)]
        self.check(unlike, unlike_signs, town, one, other)
        roads = [[[road for road, _ in second.line(town, standing, heap)] for heap in clean]
                 for standing in (one, other)]
        evens = [second.exchanges(*pair) % 2 == 0 for pair in zip(*roads)]
        self.check({heap[0]: even for heap, even in zip(clean, evens)}, evens_between, town, one, other)

    def test_behind_drawn_rows(self):
        for town, standing, row in clean_lots(250, 141):
            behind = walked(town, standing, row)[-1]
            self.compare(town, standing, behind)
            self.compare(town, behind, standing)
            clean = second.clean_heaps(town, standing)
            lots = [second.names_of_heap(town, standing, heap) for heap in clean]
            steps, abouts = ([sum(row.count((word, name)) for name in names) for names in lots]
                             for word in ("step", "about"))
            told = evens_between(town, standing, behind)
            self.assertSame(list(told.values()), [many % 2 == 0 for many in steps])
            told = unlike_signs(town, standing, behind)
            self.assertSame(told, [heap[0] for heap, many in zip(clean, abouts) if many % 2])

    def test_of_one_holding_whichever(self):
        """Every two standings of one holding in small towns, also those to which no row leads."""
        chance = random.Random(142)
        for town, names in (((2, [(0, 1), (0, 1), (0, 0)]), "a"), ((3, [(0, 1), (1, 2), (2, 0), (1, 1)]), "a"),
                            ((2, [(0, 0), (0, 0), (1, 1), (1, 1)]), "ab")):
            keys = list(all_standings(town, names))
            told = 0
            for _ in range(3000):
                one, other = thawed(chance.choice(keys)), thawed(chance.choice(keys))
                if second.one_holding(town, one, other):
                    self.compare(town, one, other)
                    told += 1
            self.assertGreater(told, 50)


class NoPairs(Checks):
    def refuse_pair(self, town, one, other):
        for function in (unlike_signs, evens_between):
            self.refuse(NoPair, function, town, one, other)
            self.refuse(NoPair, function, town, other, one)

    def test_other_names(self):
        self.refuse_pair(TOWN, ONE, (ONE[0], [("a", (2, 0)), ("c", (1, 1))]))
        self.refuse_pair(TOWN, ONE, (ONE[0], ONE[1][:1]))
        self.refuse_pair(TOWN, (ONE[0], []), (ONE[0], [("a", (0, 0))]))
        # Held alike, by a post more or a walker more.
        self.refuse_pair(TOWN, (ONE[0], [("a", (0, 0))]), (ONE[0], [("b", (0, 0))]))

    def test_other_holding(self):
        self.refuse_pair(TOWN, ONE, (ONE[0], [("a", (2, 0)), ("b", (0, 1))]))
        self.refuse_pair(TOWN, ONE, ([(1, 1), (3, 0)], ONE[1]))
        self.refuse_pair(TOWN, ([(0, 0), (0, 1)], [("a", (1, 0))]), ([(0, 0), (1, 0)], [("a", (1, 0))]))

    def test_walkers_of_other_heaps(self):
        town = (2, [(0, 0), (0, 0), (1, 1), (1, 1)])
        one = ([(0, 0), (2, 0)], [("a", (1, 0)), ("b", (3, 0))])
        self.refuse_pair(town, one, (one[0], [("a", (3, 0)), ("b", (1, 0))]))
        self.check({0: True, 1: True}, evens_between, town, one, one)

    def test_behind_all_else(self):
        for function in (unlike_signs, evens_between):
            for town, wrong in WRONG_TOWNS:
                for one, other in ((ONE, ONE), (None, None), (ONE, (ONE[0], []))):
                    self.check_wrong(NoTown, wrong, function, town, one, other)
            for standing, wrong in WRONG_STANDINGS:
                self.check_wrong(NoStanding, wrong, function, TOWN, ONE, standing)
                for other in (ONE, (ONE[0], []), HUGE, ([(0, 0)], [])):
                    self.check_wrong(NoStanding, wrong, function, TOWN, standing, other)
            for thing in THINGS:
                if not isinstance(thing, tuple) or len(thing) != 2:
                    self.check_wrong(NoStanding, ("standing",), function, TOWN, thing, ([], []))
                    self.check_wrong(NoStanding, ("standing",), function, TOWN, ONE, thing)

    def test_drawn(self):
        chance = random.Random(143)
        refused = 0
        for _ in range(300):
            town = some_town(chance, 3, 4)
            one, other = some_standing(chance, town, "ab"), some_standing(chance, town, "ab")
            if second.one_holding(town, one, other):
                continue
            refused += 1
            self.refuse_pair(town, one, other)
        self.assertGreater(refused, 100)


if __name__ == "__main__":
    unittest.main()
