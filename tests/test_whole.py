"""What is promised over the whole program (promises [2] and [3]): each function of the interface asked."""

import random
import unittest

from cameposts import bars, counted, deeds, goers, held, needed, signs, towns, ways, wishes
from cameposts.errors import NoStanding, NoTown, PostError
from tests import second
from tests.checks import ARGUMENTS, HUGE, Checks, nested
from tests.test_interface import FUNCTIONS
from tests.test_soon import full_lots
from tests.walks import some_standing, trials, walked

MODULES = (towns, deeds, held, goers, signs, bars, ways, wishes, needed, counted)


def every_function():
    return [getattr(module, name) for module in MODULES for name in FUNCTIONS[module]]


def asked(function, town, one, other, row):
    """Arguments for the function, and those by their names alone, made of one drawn lot."""
    name = one[1][0][0]
    wished = ([(0, other[0][0])], [(name, other[1][0][1][0])])
    values = {
        "town": town, "standing": one, "one": one, "other": other, "row": row, "name": name, "place": 0,
        "end": one[1][0][1], "paper": ("held", 0), "wishes": wished, "number": 0,
        "thing": {"town_wrong": town, "standing_wrong": one, "row_wrong": row, "way_judged": ("row", row),
                  "had_judged": ("standing", other)}.get(function.__name__),
    }
    behind = {"standing_behind": [{"steps": 10 ** 20}, {"steps": -7}],
              "bar_between": [{}, {"goers": [name]}, {"abouts": False}, {"goers": [], "abouts": False}],
              "least_abouts": [{}, {"goers": [name]}, {"goers": None}],
              "least_goers": [{}, {"abouts": False}]}
    behind["bar_shows"] = behind["way_between"] = behind["way_judged"] = behind["bar_between"]
    behind["how_many"] = behind["standing_at"] = behind["number_of"] = behind["least_goers"]
    return [values[each] for each in ARGUMENTS[function.__name__]], behind.get(function.__name__, [{}])


class Whole(Checks):
    def test_all_are_asked(self):
        self.assertEqual({function.__name__ for function in every_function()}, set(ARGUMENTS))
        self.assertEqual(set(MODULES), set(FUNCTIONS))

    def test_each_function(self):
        """By places and by names, twice, with what is handed in and what is told changed behind."""
        chance = random.Random(31)
        lots = [(town, one, row) for town, one, row in trials(60, 32) if one[1]]
        lots += [(town, one, [("step", "a"), ("about", "kurt")]) for town, one, _ in full_lots(5, 33)]
        for town, one, row in lots:
            other = walked(town, one, row)[-1]
            if chance.random() < 0.3:
                other = (some_standing(chance, town)[0], other[1])
            for function in every_function():
                arguments, lots_behind = asked(function, town, one, other, row)
                for behind in lots_behind:
                    try:
                        function(*arguments, **behind)
                    except PostError as refusal:
                        self.refuse(type(refusal), function, *arguments, **behind)
                    else:
                        self.told(function, *arguments, **behind)

    def test_no_town_and_no_standing(self):
        """Ahead of all else, whatever stands behind."""
        town, one = (1, [(0, 0)]), ([(0, 0)], [("a", (0, 0))])
        for function in every_function():
            names = ARGUMENTS[function.__name__]
            for thing in (None, HUGE, nested(list, 100)):
                _, lots_behind = asked(function, town, one, one, [])
                for behind in [{each: thing for each in more} for more in lots_behind]:
                    if "town" in names:
                        self.check_wrong(NoTown, ("town",), function, *[thing for _ in names], **behind)
                    if {"standing", "one"} & set(names):
                        self.check_wrong(NoStanding, ("standing",), function, town, *[thing for _ in names[1:]], **behind)

    def test_what_is_told_may_be_handed_in_again(self):
        for town, one, row in trials(60, 34):
            if not one[1]:
                continue
            name = one[1][0][0]
            other = deeds.led_by(town, one, row)
            _, way = ways.way_between(town, one, other)
            back = deeds.row_back(town, one, way)
            self.check(other, deeds.led_by, town, one, way)
            self.check(one, deeds.led_by, town, other, back)
            self.check(None, ways.way_judged, town, one, other, ways.way_between(town, one, other))
            number = counted.number_of(town, one, other)
            self.check(other, counted.standing_at, town, goers.standing_behind(town, one, name, steps=5), number)
            for lot in needed.least_goers(town, one, other):
                self.assertEqual(ways.way_between(town, one, other, goers=lot)[0], "row")
            wished = (list(enumerate(other[0])), [(each, end[0]) for each, end in other[1]])
            told = wishes.wishes_had(town, one, wished)
            self.check(True, wishes.had_judged, town, one, wished, told)
            self.check(None, towns.standing_wrong, town, told[1])


class JustOne(Checks):
    """For each question either a row leads there or a paper is due, and never both."""

    def test_just_one_of_the_two(self):
        chance = random.Random(35)
        met = {}
        for town, one, row in trials(400, 36):
            names = [name for name, _ in one[1]]
            some = sorted(chance.sample(names, chance.randint(0, len(names))))
            other = walked(town, one, [deed for deed in row if deed[1] in some or chance.random() < 0.1])[-1]
            for abouts in (True, False):
                more = {"goers": some, "abouts": abouts}
                word, told = ways.way_between(town, one, other, **more)
                papers = second.due(town, one, other, some, abouts)
                self.assertEqual(word, "bar" if papers else "row")
                if word == "row":
                    self.assertEqual(walked(town, one, told)[-1], other)
                    shown = [paper for paper in second.every_paper(town, names)
                             if bars.bar_shows(town, one, other, paper, **more)]
                    self.assertEqual(shown, [])
                else:
                    self.assertEqual(told, papers[0])
                lots = needed.least_goers(town, one, other, abouts=abouts)
                self.assertEqual(word == "row", any(set(lot) <= set(some) for lot in lots))
                met[word] = met.get(word, 0) + 1
        self.assertGreater(min(met["row"], met["bar"]), 100)


if __name__ == "__main__":
    unittest.main()
