"""The judging of ways (promise [17])."""

import random
import unittest

from cameposts.bars import bar_between, bar_shows
from cameposts.ways import way_between, way_judged
from tests import second
from tests.checks import HUGE, THINGS, Checks, nested
from tests.walks import some_standing, trials, walked

TOWN = (1, [(0, 0), (0, 0), (0, 0)])
ONE = ([(0, 0)], [("a", (1, 0)), ("b", (2, 0))])
# By this row a and b stand elsewhere, the post points elsewhere, and no sign is unlike.
ROW = [("step", "a"), ("step", "b"), ("step", "b"), ("step", "a"), ("step", "b")]
OTHER = walked(TOWN, ONE, ROW)[-1]


class Judged(Checks):
    def judge(self, answer, thing, one=ONE, other=OTHER, **more):
        self.check(answer, way_judged, TOWN, one, other, thing, **more)


class Rows(Judged):
    def test_what_shows_what_it_says(self):
        self.judge(None, ("row", ROW))
        self.judge(None, ("row", ROW), abouts=False)
        self.judge(None, ("row", ROW), goers=["a", "b"], abouts=False)
        self.judge(None, ("row", []), one=OTHER)
        self.judge(None, ("row", []), one=OTHER, goers=[], abouts=False)

    def test_no_way(self):
        no_ways = THINGS + [
            "row", "bar", ["row", ROW], ["bar", ("names",)], ("row",), ("bar",), ("row", ROW, None), (ROW, "row"),
            ("Row", ROW), ("rows", ROW), ("", ROW), (None, ROW), (0, ROW), (True, ("names",)), (("row",), ROW),
            (["row"], ROW), (HUGE, ROW), (nested(list, 90), ROW), ("way", ROW), ("standing", OTHER),
        ]
        for thing in no_ways:
            self.judge(("way",), thing)
            self.judge(("way",), thing, one=(ONE[0], []), goers=[], abouts=False)

    def test_no_row(self):
        for thing in THINGS + ["row", ("step", "a"), tuple(ROW), (ROW,), [ROW], [("row", ROW)]]:
            self.judge(("row", ("deed", 0) if isinstance(thing, list) else ("row",)), ("row", thing))
        for at in range(len(ROW)):
            for deed in (None, "step", ("step",), ("step", "c"), ("go", "a"), ["step", "a"], ("about", "a", "a"), HUGE,
                         ("step", ["a"]), ("step", True), nested(tuple, 99)):
                row = ROW[:at] + [deed] + ROW[at:] + [None]
                self.judge(("row", ("deed", at)), ("row", row))
                # Ahead of a deed of one who is no goer, and of all behind.
                self.judge(("row", ("deed", at)), ("row", row), goers=[], abouts=False)
                self.judge(("row", ("deed", at)), ("row", row), other=(ONE[0], []))

    def test_a_deed_of_one_who_is_no_goer(self):
        self.judge(("goer", 1), ("row", ROW), goers=["a"])
        self.judge(("goer", 0), ("row", ROW), goers=["b"])
        self.judge(("goer", 0), ("row", ROW), goers=[])
        self.judge(("goer", 5), ("row", ROW + [("about", "a")] * 2), abouts=False)
        self.judge(("goer", 3), ("row", ROW[:3] + [("about", "b")] + ROW), abouts=False)
        self.judge(("goer", 1), ("row", ROW + [("about", "a")]), goers=["a"], abouts=False)
        self.judge(("goer", 0), ("row", [("about", "a")] + ROW), goers=["a"], abouts=False)
        # Ahead of where it leads, and of its many abouts.
        self.judge(("goer", 4), ("row", [("about", "a")] * 4 + [("step", "b")]), goers=["a"])
        self.judge(("goer", 1), ("row", ROW), other=(ONE[0], ONE[1][:1]), goers=["a"])

    def test_where_it_leads(self):
        self.judge(("end",), ("row", []))
        self.judge(("end",), ("row", ROW), other=ONE)
        for at in range(len(ROW)):
            self.judge(("end",), ("row", ROW[:at] + ROW[at + 1:]))
            self.judge(("end",), ("row", ROW[:at] + [("step", "a")] + ROW[at:]))
        self.judge(("end",), ("row", ROW + [("about", "a")]))
        self.judge(("end",), ("row", ROW), other=(OTHER[0], OTHER[1][:1]))
        self.judge(("end",), ("row", ROW), other=(OTHER[0], []), goers=["a", "b"])
        self.judge(("end",), ("row", []), one=(ONE[0], []), other=ONE)
        # All but the one post, all but the one walker.
        self.judge(("end",), ("row", ROW), other=([(OTHER[0][0][0], 1 - OTHER[0][0][1])], OTHER[1]))
        for at in range(2):
            walkers = list(OTHER[1])
            walkers[at] = (walkers[at][0], (walkers[at][1][0], 1 - walkers[at][1][1]))
            self.judge(("end",), ("row", ROW), other=(OTHER[0], walkers))

    def test_fewer_abouts(self):
        for at in range(len(ROW)):
            for name in "ab":
                row = ROW[:at] + [("about", name)] * 2 + ROW[at:]
                self.judge(("abouts",), ("row", row))
        turned = (OTHER[0], [("a", (OTHER[1][0][1][0], 1 - OTHER[1][0][1][1])), OTHER[1][1]])
        self.judge(None, ("row", ROW + [("about", "a")]), other=turned)
        self.judge(("abouts",), ("row", ROW + [("about", "a")] * 3), other=turned)
        self.judge(("goer", 5), ("row", ROW + [("about", "a")]), other=turned, abouts=False)
        # In an unclean heap none is needed.
        town = (1, [(0, 0), (0, 0)])
        one = ([(0, 0)], [("a", (1, 0)), ("b", (1, 0))])
        other = ([(0, 0)], [("a", (1, 1)), ("b", (1, 0))])
        self.check(("abouts",), way_judged, town, one, other, ("row", [("about", "a")]))
        self.check(None, way_judged, town, one, other, ("row", [("about", "a")]), goers=["a"])

    def test_long_rows(self):
        """MOST_WAY binds way_between alone."""
        town = (1, [(0, 0), (0, 0)])
        one = ([(0, 0)], [("a", (1, 0))])
        for many, answer in ((1300, None), (1304, None), (4000, None), (3999, ("end",)), (4001, ("row", ("row",))),
                             (4004, ("row", ("row",)))):
            row = [("step", "a")] * many
            self.check(answer, way_judged, town, one, one, ("row", row))
            self.check(answer, way_judged, town, one, one, ("row", row), abouts=False)
        row = [("step", "a")] * 3998 + [("about", "a")] * 2
        self.check(("goer", 3998), way_judged, town, one, one, ("row", row), abouts=False)
        self.check(("goer", 0), way_judged, town, one, one, ("row", row), goers=[])


class Bars(Judged):
    def test_due_and_not(self):
        other = ([(1, 0)], [("a", (1, 1)), ("b", (2, 1))])
        due = [("other", "a"), ("other", "b"), ("held", 0), ("held", 1)]
        for paper in second.every_paper(TOWN, ["a", "b"]):
            first = bar_between(TOWN, ONE, other, goers=[])
            self.assertEqual(first, due[0])
            self.judge(None if paper in due or paper == ("still", 0) else ("bar",), ("bar", paper), other=other, goers=[])
        self.judge(None, ("bar", ("names",)), other=(ONE[0], []))
        self.judge(("bar",), ("bar", ("held", 1)), other=(ONE[0], []))
        self.judge(("bar",), ("bar", ("names",)))

    def test_a_sign(self):
        turned = (ONE[0], [("a", (1, 1)), ONE[1][1]])
        self.judge(None, ("bar", ("sign", 0)), other=turned, abouts=False)
        self.judge(("bar",), ("bar", ("sign", 0)), other=turned)
        self.judge(("bar",), ("bar", ("sign", 0)), other=turned, goers=["b"], abouts=False)
        self.judge(None, ("bar", ("other", "a")), other=turned, goers=["b"], abouts=False)

    def test_no_paper(self):
        for thing in THINGS + ["names", ["names"], ("held", True), ("sign", False), ("row", ROW), nested(list, 99)]:
            for other in (OTHER, (ONE[0], []), ([(1, 0)], ONE[1])):
                self.judge(("bar",), ("bar", thing), other=other)


class Drawn(Checks):
    def test_as_the_second_ways_say(self):
        """Rows made worse by one deed, and all papers, on drawn questions."""
        chance = random.Random(178)
        answers = {}
        for town, one, row in trials(250, 179, most_row=12):
            names = [name for name, _ in one[1]]
            other = walked(town, one, row)[-1] if chance.random() < 0.7 else some_standing(chance, town)
            goers = sorted(chance.sample(names, chance.randint(0, len(names))))
            abouts = chance.random() < 0.6
            more = {"goers": goers, "abouts": abouts}
            told = way_between(town, one, other, **more)
            self.check(None, way_judged, town, one, other, told, **more)
            for paper in second.every_paper(town, names) + [told[1]]:
                due = paper in second.due(town, one, other, goers, abouts)
                self.assertEqual(way_judged(town, one, other, ("bar", paper), **more), None if due else ("bar",))
                self.assertIs(bar_shows(town, one, other, paper, **more), due)
            for deeds in (row, row[1:], row + row[:1]):
                answer = self.slow_judge(town, one, other, deeds, goers, abouts)
                self.check(answer, way_judged, town, one, other, ("row", deeds), **more)
                word = answer and answer[0]
                answers[word] = answers.get(word, 0) + 1
        for word in (None, "goer", "end", "abouts"):
            self.assertGreater(answers.get(word, 0), 8, word)

    def slow_judge(self, town, one, other, row, goers, abouts):
        for at, (word, name) in enumerate(row):
            if name not in goers or (word == "about" and not abouts):
                return ("goer", at)
        if walked(town, one, row)[-1] != other:
            return ("end",)
        view = second.view(one, goers)
        least = [heap for heap in second.clean_heaps(town, view)
                 if second.sign(town, view, heap) != second.sign(town, second.view(other, goers), heap)]
        return None if len([word for word, _ in row if word == "about"]) == len(least) else ("abouts",)


if __name__ == "__main__":
    unittest.main()
