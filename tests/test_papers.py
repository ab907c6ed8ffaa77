"""Many papers asked of one question (promises [2] and [16]): each is judged by what it says alone, and soon."""

import random
import sys
import unittest

from cameposts.bars import bar_shows, need_question
from tests import second
from tests.checks import HUGE, THINGS, Checks, nested
from tests.test_soon import NAMES, full_lots, full_standing
from tests.walks import some_standing, trials, walked

NO_PAPERS = THINGS + [
    "names", ("names", 0), ("names", "a"), (("names",),), ["names"], [("names",)], ("Names",), ("nam", "es"), ("name",),
    ("other",), ("held",), ("walker",), ("still",), ("sign",), ("held", 0, 0), ("sign", 0, None), ["held", 0],
    ("other", None), ("other", "nobody"), ("other", 0), ("other", ("a",)), ("other", ["a"]), ("walker", "nobody"),
    ("walker", True), ("walker", ["kurt"]), ("held", 16), ("held", -1), ("held", "0"), ("held", None), ("held", HUGE),
    ("held", -HUGE), ("held", [0]), ("still", 8), ("still", -1), ("still", (0,)), ("still", HUGE), ("sign", 8),
    ("sign", -8), ("sign", "a"), ("sign", None), ("sign", nested(list, 98)), (nested(tuple, 98), 0), ("road", 0),
    ("place", 0), ("goer", "a"), (0, "held"), ("a", "other"), ("held", (0, 0)), (("held",), 0), (["held"], 0),
] + [(sort, truth) for sort in ("names", "other", "held", "walker", "still", "sign") for truth in (True, False)]


def calls_of(function, *arguments, **behind):
    """How many calls of functions written in Python a call makes."""
    made = []

    def note(frame, event, _):
        if event == "call":
            made.append(frame.f_code.co_name)

    before = sys.getprofile()
    sys.setprofile(note)
    try:
        function(*arguments, **behind)
    finally:
        sys.setprofile(before)
    # Comprehensions are calls in older Pythons alone.
    return len([name for name in made if not name.startswith("<")])


def full_questions(many, seed):
    """Of eight places with sixteen roads and four walkers: standings led to, others, and such that are near."""
    chance = random.Random(seed)
    for town, one, led in full_lots(many, seed):
        goers = sorted(chance.sample(NAMES, chance.randint(0, 4)))
        steps = [(chance.choice(("step", "step", "about")), chance.choice(goers)) for _ in range(30 if goers else 0)]
        near = [(name, chance.choice((faced, end))) for (name, faced), (_, end) in zip(one[1], led[1])]
        some = sorted(chance.sample(led[1], 3))
        behind = walked(town, one, steps)[-1]
        yield town, one, behind, {"goers": goers, "abouts": False}
        for other in (led, full_standing(chance, town), (led[0], near), behind, (led[0], some)):
            for lot in (None, goers):
                yield town, one, other, {"goers": lot, "abouts": chance.random() < 0.5}


class EachByItself(Checks):
    def judge_all(self, town, one, other, more):
        """Each paper that can be written of the town is told as the list of all that are due says; tells this list."""
        due = second.due(town, one, other, more["goers"], more["abouts"])
        for paper in second.every_paper(town, sorted({*NAMES, *[name for name, _ in one[1] + other[1]]})):
            self.assertIs(bar_shows(town, one, other, paper, **more), paper in due, (town, one, other, paper, more))
        return due

    def test_each_paper_of_full_towns(self):
        sorts = {}
        for town, one, other, more in full_questions(60, 241):
            for sort, _ in [(*paper, None)[:2] for paper in self.judge_all(town, one, other, more)]:
                sorts[sort] = sorts.get(sort, 0) + 1
        for sort in ("names", "other", "held", "walker", "still", "sign"):
            self.assertGreater(sorts.get(sort, 0), 4, sort)

    def test_each_paper_of_smaller_towns(self):
        chance = random.Random(242)
        for town, one, row in trials(200, 243):
            names = [name for name, _ in one[1]]
            goers = sorted(chance.sample(names, chance.randint(0, len(names))))
            for other in (walked(town, one, row)[-1], some_standing(chance, town, names),
                          walked(town, one, [deed for deed in row if deed[1] in goers])[-1]):
                for abouts in (True, False):
                    self.judge_all(town, one, other, {"goers": goers, "abouts": abouts})

    def test_what_is_no_paper(self):
        for town, one, other, more in full_questions(12, 244):
            for thing in NO_PAPERS:
                self.assertIs(bar_shows(town, one, other, thing, **more), False, more)
        (town, one, other, more), *_ = full_questions(1, 245)
        for thing in NO_PAPERS:
            self.check(False, bar_shows, town, one, other, thing, **more)


class Soon(Checks):
    """By counting calls, which are as many on each machine."""

    def test_next_to_nothing_beyond_the_question(self):
        """For what can be no paper, and for papers that speak of a name or a road alone."""
        for town, one, other, more in full_questions(6, 246):
            looked = calls_of(need_question, town, one, other, more["goers"], more["abouts"])
            for thing in NO_PAPERS:
                self.assertLessEqual(calls_of(bar_shows, town, one, other, thing, **more), looked + 8)
            for paper in [("names",)] + [("other", name) for name in NAMES] + [("held", road) for road in range(16)]:
                self.assertLessEqual(calls_of(bar_shows, town, one, other, paper, **more), looked + 15)

    def test_no_paper_asks_for_all_others(self):
        for town, one, other, more in full_questions(6, 247):
            looked = calls_of(need_question, town, one, other, more["goers"], more["abouts"])
            for paper in second.every_paper(town, NAMES):
                most = 80 if paper[0] == "sign" and not more["abouts"] else 30
                self.assertLessEqual(calls_of(bar_shows, town, one, other, paper, **more), looked + most, paper)


if __name__ == "__main__":
    unittest.main()
