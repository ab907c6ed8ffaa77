"""Steps, facings-about and rows of them (promises [1], [3] and [6])."""

import unittest

from cameposts import deeds
from cameposts.deeds import led_by, row_back, row_wrong, trail_of
from cameposts.errors import NoRow, NoStanding, NoTown
from cameposts.towns import standing_wrong
from tests.checks import HUGE, THINGS, Checks, nested
from tests.walks import trials, walked

# The town of the brackets in [6].
EIGHT = (1, [(0, 0), (0, 0)])
AT_FIRST = ([(0, 0)], [("a", (1, 0))])

# Three roads from the place 0, to 1, 2 and 3.
STAR = (4, [(0, 1), (0, 2), (0, 3)])
STAR_POSTS = [(0, 0), (0, 1), (1, 1), (2, 1)]

ROAD = (2, [(0, 1), (1, 0)])
LOT = ([(0, 0), (0, 1)], [("a", (0, 0)), ("b", (1, 0)), ("c", (1, 1)), ("d", (0, 1))])

BAD_DEEDS = [
    None, True, False, 0, HUGE, "", "step", "ab", "step a", [], (), ["step", "a"], ["about", "a"], ("step",), ("a",),
    ("step", "a", "a"), ("step", "a", None), ("a", "step"), ("Step", "a"), ("STEP", "a"), ("steps", "a"), ("ste", "a"),
    ("", "a"), ("run", "a"), ("abouts", "a"), (None, "a"), (True, "a"), (0, "a"), (HUGE, "a"), (["step"], "a"),
    (("step",), "a"), ("step", "x"), ("about", "x"), ("step", "aa"), ("step", ""), ("about", "A"), ("step", None),
    ("step", 0), ("step", True), ("about", HUGE), ("step", ["a"]), ("step", ("a",)), ("about", ["a", "b"]),
    ("step", "ab"), ("step", (0, 0)), ("step", "a "), nested(tuple, 99), nested(list, 99),
]
BAD_ROWS = [thing for thing in THINGS if not isinstance(thing, list)] + [
    (("step", "a"),), ("step", "a"), "stepa", (), ((),), [("step", "a")] * 4001, [None] * 4001, [("about", "a")] * 9000,
]


class Row(Checks):
    def test_most_deeds(self):
        self.assertIs(type(deeds.MOST_DEEDS), int)
        self.assertEqual(deeds.MOST_DEEDS, 4000)

    def test_rows(self):
        for row in ([], [("step", "a")], [("about", "a")],
                    [("about", "d"), ("step", "c"), ("step", "b"), ("about", "b")],
                    [("step", "a")] * 4000, [("about", "d")] * 4000, [("step", "a"), ("about", "b")] * 1999):
            self.check(None, row_wrong, ROAD, LOT, row)

    def test_without_walkers(self):
        nobody = (LOT[0], [])
        self.check(None, row_wrong, ROAD, nobody, [])
        self.check(nobody, led_by, ROAD, nobody, [])
        self.check([], trail_of, ROAD, nobody, [])
        self.check([], row_back, ROAD, nobody, [])
        self.check(("deed", 0), row_wrong, ROAD, nobody, [("step", "a")])
        self.check_wrong(NoRow, ("deed", 0), led_by, ROAD, nobody, [("about", "a")])

    def test_no_list_or_too_long(self):
        for row in BAD_ROWS:
            self.check(("row",), row_wrong, ROAD, LOT, row)

    def test_deed(self):
        fine = [("step", "a"), ("about", "b"), ("step", "c")]
        for deed in BAD_DEEDS:
            self.check(("deed", 0), row_wrong, ROAD, LOT, [deed])
            for at in range(4):
                self.check(("deed", at), row_wrong, ROAD, LOT, fine[:at] + [deed] + fine[at:])
            self.check(("deed", 3999), row_wrong, ROAD, LOT, [("step", "d")] * 3999 + [deed])

    def test_the_least_deed(self):
        for deed in BAD_DEEDS:
            self.check(("deed", 1), row_wrong, ROAD, LOT, [("step", "a"), deed, None, ("step", "a")])
            self.check(("deed", 1), row_wrong, ROAD, LOT, [("step", "a"), ("step", "e"), deed])

    def test_names_of_the_standing_alone(self):
        self.check(("deed", 1), row_wrong, EIGHT, AT_FIRST, [("step", "a"), ("step", "b")])
        self.check(None, row_wrong, EIGHT, ([(0, 0)], [("bb", (1, 0))]), [("step", "bb")])


class Refusals(Checks):
    towns = [(None, ("town",)), ([2, [(0, 1)]], ("town",)), ((True, [(0, 0)]), ("places",)), ((2, []), ("roads",)),
             ((2, [(0, 1), (0, 2)]), ("road", 1)), ((3, [(0, 1), (1, 0)]), ("bare", 2))]
    standings = [(None, ("standing",)), ([LOT[0], LOT[1]], ("standing",)), ((LOT[0][:1], LOT[1]), ("posts",)),
                 (([(0, 1), (0, 1)], LOT[1]), ("post", 0)), (([(0, 0), (0, True)], LOT[1]), ("post", 1)),
                 ((LOT[0], LOT[1] + [("e", (0, 0))]), ("walkers",)), ((LOT[0], LOT[1][::-1]), ("walker", 1))]
    rows = [(None, ("row",)), ((("step", "a"),), ("row",)),
            ([("step", "a")] * 4001, ("row",)), ([None] * 4001, ("row",)),
            ([("step", "a"), ("step", "x")], ("deed", 1)), ([("step", "a"), ["step", "a"], None], ("deed", 1))]

    def test_no_town_ahead_of_all(self):
        for town, wrong in self.towns:
            for standing in (LOT, None, HUGE, (LOT[0], None)):
                for row in ([], None, [("step", "x")], nested(list, 100)):
                    for function in (row_wrong, led_by, trail_of, row_back):
                        self.check_wrong(NoTown, wrong, function, town, standing, row)

    def test_no_standing_behind(self):
        for standing, wrong in self.standings:
            for row in ([], None, [("step", "x")], HUGE, nested(list, 100)):
                for function in (row_wrong, led_by, trail_of, row_back):
                    self.check_wrong(NoStanding, wrong, function, ROAD, standing, row)

    def test_no_row_last(self):
        for row, wrong in self.rows:
            self.check(wrong, row_wrong, ROAD, LOT, row)
            for function in (led_by, trail_of, row_back):
                self.check_wrong(NoRow, wrong, function, ROAD, LOT, row)

    def test_no_row_of_anything(self):
        for row in BAD_ROWS:
            for function in (led_by, trail_of, row_back):
                self.check_wrong(NoRow, ("row",), function, ROAD, LOT, row)
        for deed in BAD_DEEDS:
            for function in (led_by, trail_of, row_back):
                self.check_wrong(NoRow, ("deed", 1), function, ROAD, LOT, [("about", "d"), deed, ("step", "a")])


class Deeds(Checks):
    def lead(self, town, standing, row, ends, other):
        self.check(ends, trail_of, town, standing, row)
        self.check(other, led_by, town, standing, row)

    def test_the_row_of_the_brackets(self):
        stations = [AT_FIRST, ([(1, 0)], [("a", (0, 1))]), ([(0, 1)], [("a", (1, 1))]),
                    ([(1, 1)], [("a", (0, 0))]), AT_FIRST]
        ends = [(0, 1), (1, 1), (0, 0), (1, 0)]
        for many in range(5):
            self.lead(EIGHT, AT_FIRST, [("step", "a")] * many, ends[:many], stations[many])
        for before in range(4):
            self.lead(EIGHT, stations[before], [("step", "a")], [ends[before]], stations[before + 1])

    def test_long_rows(self):
        self.lead(EIGHT, AT_FIRST, [("step", "a")] * 4000, [(0, 1), (1, 1), (0, 0), (1, 0)] * 1000, AT_FIRST)
        self.lead(EIGHT, AT_FIRST, [("about", "a")] * 4000, [(1, 1), (1, 0)] * 2000, AT_FIRST)
        self.lead(EIGHT, AT_FIRST, [("about", "a")] * 3999, [(1, 1), (1, 0)] * 1999 + [(1, 1)],
                  ([(0, 0)], [("a", (1, 1))]))

    def test_about(self):
        self.lead(STAR, (STAR_POSTS, [("a", (1, 0)), ("b", (1, 0))]), [("about", "a")], [(1, 1)],
                  (STAR_POSTS, [("a", (1, 1)), ("b", (1, 0))]))
        self.lead(STAR, (STAR_POSTS, [("a", (1, 1))]), [("about", "a")], [(1, 0)], (STAR_POSTS, [("a", (1, 0))]))

    def test_a_step_to_the_end_that_the_post_points_to(self):
        self.lead(STAR, (STAR_POSTS, [("a", (0, 0))]), [("step", "a")], [(0, 1)], (STAR_POSTS, [("a", (0, 1))]))
        self.lead(STAR, (STAR_POSTS, [("a", (2, 1))]), [("step", "a")], [(2, 0)], (STAR_POSTS, [("a", (2, 0))]))

    def test_a_road_with_both_ends_at_one_place(self):
        loop = (1, [(0, 0)])
        self.lead(loop, ([(0, 1)], [("a", (0, 0))]), [("step", "a")], [(0, 0)], ([(0, 0)], [("a", (0, 0))]))
        self.lead(loop, ([(0, 0)], [("a", (0, 0))]), [("step", "a")], [(0, 1)], ([(0, 0)], [("a", (0, 1))]))
        self.lead(loop, ([(0, 0)], [("a", (0, 1))]), [("step", "a")], [(0, 1)], ([(0, 1)], [("a", (0, 1))]))

    def test_two_that_face_one_place(self):
        two = (STAR_POSTS, [("a", (1, 0)), ("b", (2, 0))])
        self.lead(STAR, two, [("step", "a"), ("step", "b")], [(0, 1), (1, 1)],
                  ([(2, 0), (0, 1), (1, 1), (2, 1)], [("a", (0, 1)), ("b", (1, 1))]))
        self.lead(STAR, two, [("step", "b"), ("step", "a")], [(0, 1), (2, 1)],
                  ([(1, 0), (0, 1), (1, 1), (2, 1)], [("a", (2, 1)), ("b", (0, 1))]))

    def test_two_that_face_one_end(self):
        two = (STAR_POSTS, [("a", (1, 0)), ("b", (1, 0))])
        self.lead(STAR, two, [("step", "b"), ("step", "a")], [(0, 1), (1, 1)],
                  ([(1, 0), (0, 1), (1, 1), (2, 1)], [("a", (1, 1)), ("b", (0, 1))]))

    def test_each_goes_out_where_the_one_before_it_came_in(self):
        """Promise [1]: whoever that was, and whatever was done elsewhere in between."""
        lot = (STAR_POSTS, [("a", (1, 0)), ("b", (2, 0)), ("c", (0, 1))])
        row = [("step", "a"), ("step", "c"), ("about", "a"), ("step", "b"), ("step", "a"), ("step", "c")]
        self.check([(0, 1), (0, 0), (0, 0), (1, 1), (2, 1), (0, 1)], trail_of, STAR, lot, row)

    def test_a_row_in_two_parts(self):
        for town, standing, row in trials(40, 61):
            half = len(row) // 2
            between = self.told(led_by, town, standing, row[:half])
            self.check(self.told(led_by, town, standing, row), led_by, town, between, row[half:])
            ends = self.told(trail_of, town, standing, row[:half]) + self.told(trail_of, town, between, row[half:])
            self.check(ends, trail_of, town, standing, row)

    def test_walked_in_a_second_way(self):
        for town, standing, row in trials(150, 6):
            passed = walked(town, standing, row)
            self.check(passed[-1], led_by, town, standing, row)
            self.check(None, standing_wrong, town, passed[-1])
            ends = [dict(after[1])[name] for (_, name), after in zip(row, passed[1:])]
            self.check(ends, trail_of, town, standing, row)


if __name__ == "__main__":
    unittest.main()
