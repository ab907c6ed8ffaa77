"""What each answer and each refusal must keep (promise [2]), checked around every call of the tests."""

import copy
import unittest

# The arguments of each function of the interface, by name, without those behind a star.
ARGUMENTS = {
    "town_wrong": ("thing",),
    "ends_at": ("town", "place"),
    "standing_wrong": ("town", "thing"),
    "row_wrong": ("town", "standing", "thing"),
    "led_by": ("town", "standing", "row"),
    "trail_of": ("town", "standing", "row"),
    "row_back": ("town", "standing", "row"),
    "holding_of": ("town", "standing"),
    "heaps_of": ("town", "standing"),
    "goers_in": ("town", "standing"),
    "basins_of": ("town", "standing"),
    "pendants_of": ("town", "standing"),
    "can_walk": ("town", "standing"),
    "can_point": ("town", "standing", "place"),
    "run_of": ("town", "standing", "name"),
    "circuit_of": ("town", "standing", "name"),
    "round_of": ("town", "standing", "name"),
    "standing_behind": ("town", "standing", "name"),
    "first_time": ("town", "standing", "name", "end"),
    "sign_of": ("town", "standing", "place"),
    "unlike_signs": ("town", "one", "other"),
    "evens_between": ("town", "one", "other"),
    "bar_between": ("town", "one", "other"),
    "bar_shows": ("town", "one", "other", "paper"),
    "way_between": ("town", "one", "other"),
    "least_abouts": ("town", "one", "other"),
    "way_judged": ("town", "one", "other", "thing"),
    "wishes_had": ("town", "standing", "wishes"),
    "had_judged": ("town", "standing", "wishes", "thing"),
    "least_goers": ("town", "one", "other"),
    "how_many": ("town", "standing"),
    "standing_at": ("town", "standing", "number"),
    "number_of": ("town", "standing", "other"),
}

# The arguments that are handed in by their names alone.
BY_NAME_ALONE = {
    "standing_behind": ("steps",),
    "bar_between": ("goers", "abouts"),
    "bar_shows": ("goers", "abouts"),
    "way_between": ("goers", "abouts"),
    "least_abouts": ("goers",),
    "way_judged": ("goers", "abouts"),
    "least_goers": ("abouts",),
    "how_many": ("abouts",),
    "standing_at": ("abouts",),
    "number_of": ("abouts",),
}

HUGE = 10 ** 5000


def nested(kind, deep):
    thing = kind()
    for _ in range(deep - 1):
        thing = kind([thing])
    return thing


# Anything, but no town, no standing, no row, no place, no end and no deed.
THINGS = [
    None, True, False, -1, 9, HUGE, -HUGE, "", "a", "ab", "step", "town", " ~",
    (), (None,), (1,), ("a",), [1], [None], ["a", "b"], [[], []], (1, 2), (None, None), ("a", "b"),
    (True, False), (HUGE, HUGE), ([], [], []), (1, [(0, 0)], 0), [1, [(0, 0)]], [(0, 0), (0, 1)],
    nested(tuple, 100), nested(list, 100), [nested(tuple, 99), HUGE],
]


def shape(thing):
    """A picture of the thing in which True is not 1 and a list is no tuple."""
    kind = type(thing).__name__
    if isinstance(thing, (tuple, list)):
        return [kind] + [shape(part) for part in thing]
    if isinstance(thing, dict):
        return [kind] + [[shape(key), shape(thing[key])] for key in thing]
    return [kind, thing]


def parts_of(thing):
    """The thing and all that is in it."""
    if isinstance(thing, (tuple, list)):
        return [thing] + [each for part in thing for each in parts_of(part)]
    if isinstance(thing, dict):
        return [thing] + [each for key in thing for part in (key, thing[key]) for each in parts_of(part)]
    return [thing]


def changeables(thing):
    return [part for part in parts_of(thing) if isinstance(part, (list, dict))]


def spoil(thing):
    """Change every list and dict in the thing."""
    for part in changeables(thing):
        if isinstance(part, dict):
            part.clear()
            part["spoilt"] = "spoilt"
        else:
            part[:] = ["spoilt"] + part[1:] + ["spoilt"]


def brief(thing):
    """A text for messages; Python makes none of a number of thousands of figures."""
    try:
        return repr(thing)[:300]
    except ValueError:
        return "a thing with a huge number in it"


class Checks(unittest.TestCase):
    def assertSame(self, first, second):
        self.assertTrue(shape(first) == shape(second), f"{brief(first)} is not {brief(second)}")

    def assertPlain(self, thing):
        for part in parts_of(thing):
            self.assertIn(type(part), (type(None), bool, int, str, tuple, list, dict))

    def assertApart(self, *things):
        """No list and no dict stands at two places of the things."""
        every = [id(part) for thing in things for part in changeables(thing)]
        self.assertEqual(len(every), len(set(every)))

    def told(self, function, *arguments, **behind):
        """What the function tells, with all checked that holds of every answer."""
        given = shape((arguments, behind))
        handed, named = copy.deepcopy((arguments, behind))
        first = function(*handed, **named)
        answer = copy.deepcopy(first)
        self.assertTrue(shape((handed, named)) == given, "what was handed in is changed")
        self.assertPlain(first)
        self.assertApart(first)
        owned = [id(part) for part in changeables((handed, named))]
        self.assertFalse([part for part in changeables(first) if id(part) in owned], "told what was handed in")
        second = function(*handed, **named)
        self.assertApart(first, second)
        self.assertSame(second, answer)
        spoil(second)
        self.assertTrue(shape((handed, named)) == given, "a change of the answer changes what was handed in")
        self.assertSame(function(**self.by_names(function, handed, named)), answer)
        spoil((handed, list(named.values())))
        self.assertSame(first, answer)
        self.assertSame(function(*copy.deepcopy(arguments), **copy.deepcopy(behind)), answer)
        return answer

    def by_names(self, function, handed, named):
        """All arguments of a call by their names, in another order."""
        names = ARGUMENTS[function.__name__]
        self.assertEqual(len(names), len(handed))
        self.assertLessEqual(set(named), set(BY_NAME_ALONE.get(function.__name__, ())))
        every = {**dict(zip(names, handed)), **named}
        return {name: every[name] for name in reversed(list(every))}

    def check(self, answer, function, *arguments, **behind):
        self.assertSame(self.told(function, *arguments, **behind), answer)

    def refuse(self, error, function, *arguments, **behind):
        """The refusal that the function raises, by places and by names, twice over."""
        given = shape((arguments, behind))
        handed, named = copy.deepcopy((arguments, behind))
        caught = []
        for _ in range(2):
            with self.assertRaises(error) as by_places:
                function(*handed, **named)
            with self.assertRaises(error) as by_names:
                function(**self.by_names(function, handed, named))
            caught += [by_places.exception, by_names.exception]
            self.assertTrue(shape((handed, named)) == given, "what was handed in is changed")
        self.assertEqual([type(each) for each in caught], [error] * 4)
        return caught

    def check_wrong(self, error, wrong, function, *arguments, **behind):
        """It refuses with this error, whose field wrong is this."""
        for each in self.refuse(error, function, *arguments, **behind):
            self.assertSame(each.wrong, wrong)
