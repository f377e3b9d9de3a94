"""What is what [2], [4], [12]: against a second telling of [2], for many values with parts exchanged."""

from math import gcd

from lampsaloft.forms import (
    are_legs, is_bounds, is_charge, is_column, is_edition, is_fraction, is_integer, is_lamp, is_leg, is_name,
    is_picture, is_scene, is_show, lag_of, r_of, rho_of, squared, way_squared)
from tests.things import PARTS, LampCase, any_values, exchanged

BOUNDS = (20, 8, 1, 2, 6, 60, 3, 4, 5)
LAMP = (0, 5, ("red", "dark"), 2)
PICTURE = (LAMP, (0, 9, ("blue",), 0), (7, -3, ("gold",), 1))
LEGS = (((0, 0), (5, 5)), ((20, 0), (20, 0)))
SCENE = (10, 30, PICTURE)
SHOW = (BOUNDS, ((0, 60), (30, 60)), (100, 1, 2), (SCENE, (12, 0, ())))


def integer(thing):
    return type(thing) is int


def rows(thing, *kinds):
    return type(thing) is tuple and len(thing) == len(kinds) and all(kind(part) for kind, part in zip(kinds, thing))


def many_of(thing, kind):
    return type(thing) is tuple and all(kind(part) for part in thing)


def unlike(things):
    return all(one != other for at, one in enumerate(things) for other in things[:at])


def at_least(least):
    return lambda thing: integer(thing) and thing >= least


def fraction(thing):
    return rows(thing, integer, at_least(1)) and gcd(*thing) == 1


def name(thing):
    return type(thing) is str and 0 < len(thing) < 13 and not thing.strip("abcdefghijklmnopqrstuvwxyz")


def column(thing):
    return rows(thing, integer, integer)


def bounds(thing):
    return rows(thing, *[at_least(least) for least in (1, 1, 0, 0, 0, 0, 1, 0, 1)]) and thing[5] >= thing[0]


def leg(thing):
    return rows(thing, column, column)


def led_apart(legs):
    return unlike([one[0] for one in legs]) and unlike([one[1] for one in legs])


def legs(thing):
    return many_of(thing, leg) and led_apart(thing)


def shades(thing):
    return thing != () and many_of(thing, name)


def lamp(thing):
    return rows(thing, integer, integer, shades, at_least(0))


def picture(thing):
    if not many_of(thing, lamp):
        return False
    places = [one[:2] for one in thing]
    return places == sorted(places) and unlike(places)


def charge(thing):
    return rows(thing, at_least(0), at_least(0), at_least(0))


def scene(told, thing):
    return rows(thing, at_least(max(1, told[4] + 2 * told[3])), at_least(0), picture)


def show(thing):
    if not rows(thing, bounds, lambda pads: many_of(pads, column), charge, lambda scenes: type(scenes) is tuple):
        return False
    return thing[1] != () and unlike(thing[1]) and thing[3] != () and all(scene(thing[0], one) for one in thing[3])


def edition(many, thing):
    if type(thing) is not dict or not all(integer(key) and 0 <= key < many for key in thing):
        return False
    return all(leg(one) for one in thing.values()) and led_apart(list(thing.values()))


class Forms(LampCase):

    def told_as(self, wanted, function, things):
        answers = set()
        for thing in things:
            answer = self.ask(function, thing)
            self.assertIs(type(answer), bool)
            self.assertIs(answer, wanted(thing), repr(thing)[:200])
            answers.add(answer)
        self.assertEqual(answers, {True, False})

    def check(self, wanted, function, *good):
        things = any_values()
        for value in good:
            self.assertIs(function(value), True, repr(value)[:200])
            things = things + [value] + exchanged(value, PARTS)
        self.told_as(wanted, function, things)

    def test_integer(self):
        self.check(integer, is_integer, 0, 1, -1, 10 ** 39)

    def test_fraction(self):
        self.check(fraction, is_fraction, (0, 1), (1, 1), (-3, 2), (10 ** 20, 10 ** 20 + 1))
        for thing in ((0, 2), (2, 4), (1, -2), (1, 0), (0, 0), (-2, -2), (6, 3)):
            self.assertIs(is_fraction(thing), False)

    def test_name(self):
        self.check(name, is_name, "a", "z", "dark", "abcdefghijkl")
        for thing in ("", "abcdefghijklm", "Red", "red1", "re d", "red\n", "`", "{", "red/blue", "a-b"):
            self.assertIs(is_name(thing), False)

    def test_column(self):
        self.check(column, is_column, (0, 0), (3, -4), (10 ** 39, 1))

    def test_bounds(self):
        self.check(bounds, is_bounds, BOUNDS, (1, 1, 0, 0, 0, 1, 1, 0, 1), (60, 8, 1, 2, 6, 60, 3, 4, 5))
        for at, least in enumerate((1, 1, 0, 0, 0, 20, 1, 0, 1)):
            edge = list(BOUNDS)
            edge[at] = least
            self.assertIs(is_bounds(tuple(edge)), True)
            edge[at] = least - 1
            self.assertIs(is_bounds(tuple(edge)), False)

    def test_leg(self):
        self.check(leg, is_leg, LEGS[0], LEGS[1], ((1, 2), (1, 2)))

    def test_legs(self):
        self.check(legs, are_legs, (), LEGS, LEGS[:1], (((0, 0), (9, 0)), ((9, 0), (0, 0))))
        self.assertIs(are_legs((((0, 0), (5, 5)), ((0, 0), (6, 6)))), False)
        self.assertIs(are_legs((((0, 0), (5, 5)), ((1, 0), (5, 5)))), False)

    def test_lamp(self):
        self.check(lamp, is_lamp, LAMP, (-1, 10 ** 12, ("a",) * 40, 0))

    def test_picture(self):
        self.check(picture, is_picture, (), PICTURE, (LAMP,))
        self.assertIs(is_picture(PICTURE[::-1]), False)
        self.assertIs(is_picture(((0, 0, ("a",), 0), (0, 0, ("b",), 0))), False)
        self.assertIs(is_picture(((0, 1, ("a",), 0), (0, 0, ("b",), 0))), False)

    def test_many_lamps(self):
        many = tuple([(x, 0, ("red",), 0) for x in range(3001)])
        self.assertIs(is_picture(many), True)
        self.assertIs(is_picture(many + many[:1]), False)

    def test_charge(self):
        self.check(charge, is_charge, (0, 0, 0), (100, 1, 2))

    def test_scene(self):
        for told, least in ((BOUNDS, 10), ((1, 1, 0, 0, 0, 1, 1, 0, 1), 1)):
            things = any_values() + exchanged((least, 0, PICTURE), PARTS) + [(least, 0, ()), (least - 1, 0, ())]
            self.told_as(lambda thing: scene(told, thing), lambda thing: is_scene(told, thing), things)
            self.assertIs(is_scene(told, (least, 0, PICTURE)), True)
            self.assertIs(is_scene(told, (least - 1, 0, PICTURE)), False)

    def test_show(self):
        self.check(show, is_show, SHOW, (BOUNDS, ((0, 0),), (0, 0, 0), ((10, 0, ()),)))
        self.assertIs(is_show((BOUNDS, (), SHOW[2], SHOW[3])), False)
        self.assertIs(is_show((BOUNDS, SHOW[1], SHOW[2], ())), False)
        self.assertIs(is_show((BOUNDS, SHOW[1], SHOW[2], ((9, 30, PICTURE),))), False)

    def test_edition(self):
        for many in (0, 1, 2, 5):
            things = any_values() + exchanged({1: LEGS[0], 0: LEGS[1]}, PARTS) + [{}, {0: LEGS[0], 4: LEGS[0]}]
            self.told_as(lambda thing: edition(many, thing), lambda thing: is_edition(many, thing), things)
        self.assertIs(is_edition(2, {1: LEGS[0], 0: LEGS[1]}), True)
        self.assertIs(is_edition(1, {1: LEGS[0]}), False)
        self.assertIs(is_edition(2, {True: LEGS[0]}), False)
        self.assertIs(is_edition(0, {}), True)

    def test_numbers(self):
        self.tells(25, squared, (3, -4), (0, 0))
        self.tells(0, squared, (3, -4), (3, -4))
        self.tells(2 * (2 * 10 ** 9) ** 2, squared, (-10 ** 9, 10 ** 9), (10 ** 9, -10 ** 9))
        self.tells(34, way_squared, ((1, 1), (4, -4)))
        self.tells(10, r_of, BOUNDS)
        self.tells(8, r_of, (20, 8, 0, 2, 6, 60, 3, 4, 5))
        self.tells(10, lag_of, BOUNDS)
        self.tells(0, lag_of, (1, 1, 0, 0, 0, 1, 1, 0, 1))

    def test_rho(self):
        self.tells((1, 4), rho_of, BOUNDS, 40)
        self.tells((1, 1), rho_of, BOUNDS, 10)
        self.tells((10, 11), rho_of, BOUNDS, 11)
        self.tells((0, 1), rho_of, (1, 1, 0, 0, 0, 1, 1, 0, 1), 7)
