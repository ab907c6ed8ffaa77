"""Rows that lead back (promise [7])."""

import unittest

from cameposts.deeds import led_by, row_back, row_wrong, trail_of
from cameposts.errors import NoRow
from tests.checks import Checks
from tests.walks import trials, walked

ROAD = (2, [(0, 1), (1, 0)])
LOT = ([(0, 0), (0, 1)], [("a", (0, 0)), ("b", (1, 0)), ("c", (1, 1)), ("d", (0, 1))])


class RowBack(Checks):
    def test_by_hand(self):
        self.check([], row_back, ROAD, LOT, [])
        self.check([("about", "c")], row_back, ROAD, LOT, [("about", "c")])
        self.check([("about", "c"), ("step", "c"), ("about", "c")], row_back, ROAD, LOT, [("step", "c")])
        faced = [("about", "b"), ("about", "d")]
        self.check(faced + [("step", "b"), ("about", "a"), ("step", "d")] + faced,
                   row_back, ROAD, LOT, [("step", "d"), ("about", "a"), ("step", "b")])

    def test_those_who_step_are_faced_about_once_and_by_name(self):
        row = [("step", "d"), ("step", "b"), ("about", "c"), ("step", "d"),
               ("about", "b"), ("step", "a"), ("step", "b")]
        abouts = [("about", "a"), ("about", "b"), ("about", "d")]
        self.check(abouts + row[::-1] + abouts, row_back, ROAD, LOT, row)

    def test_it_leads_back(self):
        for town, standing, row in trials(150, 7):
            reached = self.told(led_by, town, standing, row)
            back = self.told(row_back, town, standing, row)
            steppers = sorted({name for word, name in row if word == "step"})
            self.assertSame(back, [("about", name) for name in steppers] + row[::-1]
                            + [("about", name) for name in steppers])
            self.check(None, row_wrong, town, reached, back)
            self.check(standing, led_by, town, reached, back)

    def test_deed_by_deed_it_passes_what_the_row_passed(self):
        """The posts are as they were there, and those who step face the other ends of their roads."""
        for town, standing, row in trials(60, 77):
            there = walked(town, standing, row)
            back = self.told(row_back, town, standing, row)
            steppers = {name for word, name in row if word == "step"}
            ends = self.told(trail_of, town, there[-1], back)
            again = walked(town, there[-1], back)
            self.assertSame(ends, [dict(after[1])[name] for (_, name), after in zip(back, again[1:])])
            middle = again[len(steppers):len(again) - len(steppers)]
            turned = [(posts, [(name, (r, 1 - s) if name in steppers else (r, s)) for name, (r, s) in walkers])
                      for posts, walkers in there]
            self.assertSame(middle, turned[::-1])

    def test_back_of_back(self):
        for town, standing, row in trials(40, 777):
            reached = self.told(led_by, town, standing, row)
            back = self.told(row_back, town, standing, row)
            again = self.told(row_back, town, reached, back)
            self.check(reached, led_by, town, standing, again)

    def test_as_many_deeds_as_can_be(self):
        abouts = [("about", "a"), ("about", "b")] * 2000
        self.check(abouts[::-1], row_back, ROAD, LOT, abouts)
        for steppers in ("a", "bd", "abd", "abcd"):
            short = [("step", name) for name in steppers]
            fits = short + [("about", "c")] * (4000 - 3 * len(steppers))
            faced = [("about", name) for name in steppers]
            self.check(faced + fits[::-1] + faced, row_back, ROAD, LOT, fits)
            self.assertEqual(len(self.told(row_back, ROAD, LOT, fits)), 4000)
            for more in (1, 2):
                if len(fits) + more <= 4000:
                    self.check(None, row_wrong, ROAD, LOT, fits + [("about", "c")] * more)
                    self.check_wrong(NoRow, ("row",), row_back, ROAD, LOT, fits + [("about", "c")] * more)
        self.check_wrong(NoRow, ("row",), row_back, ROAD, LOT, [("step", "a")] * 4000)
        self.check_wrong(NoRow, ("row",), row_back, ROAD, LOT, [("step", "a")] * 3999)

    def test_what_is_no_row_is_told_ahead_of_what_is_too_long(self):
        for at in (0, 17, 3998):
            row = [("step", "a")] * at + [("step", "x")] + [("step", "a")] * (3998 - at)
            self.check_wrong(NoRow, ("deed", at), row_back, ROAD, LOT, row)


if __name__ == "__main__":
    unittest.main()
