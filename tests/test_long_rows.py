"""Rows of thousands of deeds: told as deed by deed, and soon (promises [2], [6] and [7])."""

import random
import time
import unittest

from cameposts.deeds import led_by, row_back, row_wrong, trail_of
from cameposts.errors import NoRow
from tests.checks import Checks, nested
from tests.walks import some_standing, some_town, walked

EIGHT = (1, [(0, 0), (0, 0)])
AT_FIRST = ([(0, 0)], [("a", (1, 0))])
STATIONS = [AT_FIRST, ([(1, 0)], [("a", (0, 1))]), ([(0, 1)], [("a", (1, 1))]), ([(1, 1)], [("a", (0, 0))])]

# Far more than is taken: the tests fail for what hangs, not for a machine that has much to do.
SECONDS = 0.1


def long_lots(many, seed):
    """Towns, standings with walkers, and rows of 4,000 deeds: drawn, with long runs of one deed, and of few sorts."""
    chance = random.Random(seed)
    for at in range(many):
        town = some_town(chance)
        names = ("a", "ab", "kurt", "zzzzzzzz")[:1 + at % 4]
        standing = some_standing(chance, town, names)
        if not standing[1]:
            standing = (standing[0], [("only", (0, 1))])
        deeds = [(word, name) for word in ("step", "about") for name, _ in standing[1]]
        row = []
        while len(row) < 4000:
            if at % 3 == 0:
                row.append(tuple(chance.choice(deeds)))
            else:
                row += [chance.choice(deeds)] * chance.randint(1, 7 if at % 3 == 1 else 900)
        yield town, standing, row[:4000]


def row_that_leads_back(row):
    abouts = [("about", name) for name in sorted({name for word, name in row if word == "step"})]
    return abouts + row[::-1] + abouts


class DeedByDeed(Checks):
    def test_the_town_of_the_brackets(self):
        row = [("step", "a")] * 4000
        self.check(None, row_wrong, EIGHT, AT_FIRST, row)
        self.check([STATIONS[at % 4][1][0][1] for at in range(1, 4001)], trail_of, EIGHT, AT_FIRST, row)
        for many in (4000, 3999, 3998, 3997):
            self.check(STATIONS[many % 4], led_by, EIGHT, AT_FIRST, row[:many])
        back = [("about", "a")] + row[:3998] + [("about", "a")]
        self.check(back, row_back, EIGHT, AT_FIRST, row[:3998])
        self.check(AT_FIRST, led_by, EIGHT, STATIONS[2], back)

    def test_drawn(self):
        for town, standing, row in long_lots(24, 61):
            passed = walked(town, standing, row)
            self.check(None, row_wrong, town, standing, row)
            self.check(passed[-1], led_by, town, standing, row)
            ends = [dict(after[1])[name] for (_, name), after in zip(row, passed[1:])]
            self.check(ends, trail_of, town, standing, row)
            short = row[:3998 - 2 * len(standing[1])]
            back = self.told(row_back, town, standing, short)
            self.assertSame(back, row_that_leads_back(short))
            self.assertSame(led_by(town, led_by(town, standing, short), back), standing)

    def test_of_tuples_that_are_equal_but_not_the_same(self):
        row = [("".join(["st", "ep"]), "".join(["a"])) for _ in range(4000)]
        self.check(AT_FIRST, led_by, EIGHT, AT_FIRST, row)
        self.check(None, row_wrong, EIGHT, AT_FIRST, row)

    def test_the_first_wrong_deed_wherever_it_stands(self):
        deeds = [None, True, 0, "step", [], ["step", "a"], ("step", "x"), ("about", ["a"]), ("Step", "zz"),
                 ("step", "a", "a"), nested(tuple, 100), nested(list, 100)]
        for town, standing, row in long_lots(6, 62):
            for at in (0, 1, 31, 32, 33, 2000, 3998, 3999):
                for deed in deeds:
                    wrong = row[:at] + [deed] + row[at + 1:]
                    told = row_wrong(town, standing, wrong)
                    self.assertSame(told, ("deed", at))
                    wrong[at + 1:at + 2] = [deed] * len(wrong[at + 1:at + 2])
                    wrong[-1] = deed
                    self.assertSame(row_wrong(town, standing, wrong), ("deed", at))
                for function in (led_by, trail_of, row_back):
                    self.check_wrong(NoRow, ("deed", at), function, town, standing, row[:at] + [None] + row[at + 1:])

    def test_wrong_all_along(self):
        for thing in (None, ("step", "b"), ["step", "a"], [], 0):
            self.check(("deed", 0), row_wrong, EIGHT, AT_FIRST, [thing] * 4000)
            self.check(("deed", 1), row_wrong, EIGHT, AT_FIRST, [("about", "a")] + [thing] * 3999)


class Soon(Checks):
    def test_long_rows(self):
        lots = list(long_lots(12, 63)) + [(EIGHT, AT_FIRST, [("step", "a")] * 4000)]
        for function in (row_wrong, led_by, trail_of, row_back):
            began = time.perf_counter()
            for town, standing, row in lots:
                function(town, standing, row[:3992] if function == row_back else row)
            self.assertLess(time.perf_counter() - began, SECONDS * len(lots))


if __name__ == "__main__":
    unittest.main()
