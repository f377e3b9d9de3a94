"""GAINS [21]: there is one exactly if a CHOICE has no LEAST PAPER."""

import random
from itertools import permutations

from lampsaloft.gains import gain_of, gained, gained_often, is_gain
from lampsaloft.least import is_choice, least_legs, least_price, price_of
from lampsaloft.potentials import potentials
from tests.test_least import all_choices, distance, some_columns, some_question
from tests.test_potentials import shuffled_choice
from tests.things import PARTS, LampCase, any_values, exchanged


def behind(spare, legs, turns, end):
    """The CHOICE behind a round, by the words of the document."""
    tos = [leg[1] for leg in legs]
    for at in range(len(turns) - 1):
        tos[turns[at]] = legs[turns[at + 1]][1]
    tos[turns[-1]] = legs[turns[0]][1] if end is None else spare[end]
    return tuple(zip([leg[0] for leg in legs], tos))


def is_one(spare, legs, thing):
    """Whether it is a GAIN, by the words of the document."""
    if type(thing) is not tuple or len(thing) != 2 or type(thing[0]) is not tuple or thing[0] == ():
        return False
    turns, end = thing
    if any(type(index) is not int or not 0 <= index < len(legs) for index in turns) or len(set(turns)) < len(turns):
        return False
    if end is not None:
        if type(end) is not int or not 0 <= end < len(spare) or spare[end] in [leg[1] for leg in legs]:
            return False
        if legs[turns[0]][1] not in spare:
            return False
    later = behind(spare, legs, turns, end)
    return sum(distance(*leg) for leg in later) < sum(distance(*leg) for leg in legs)


def all_rounds(spare, legs):
    """All tuples (round, end), GAINS or not."""
    for many in range(1, len(legs) + 1):
        for turns in permutations(range(len(legs)), many):
            for end in [None] + list(range(len(spare))):
                yield turns, end


class Gains(LampCase):

    def test_there_is_one_exactly_if_the_price_is_not_the_least(self):
        dice = random.Random(25)
        for _ in range(60):
            froms, goals, spare = some_question(dice, dice.choice((1, 3, 10, 999999999)) + 2, 4)
            least = least_price(froms, goals, spare)
            for choice in list(all_choices(froms, goals, spare))[:25]:
                told = self.ask(gain_of, froms, goals, spare, choice)
                self.assertEqual(told is None, price_of(choice) == least)
                self.assertEqual(told is None, potentials(froms, goals, spare, choice) is not None)
                if told is not None:
                    self.assertTrue(is_one(spare, choice, told))
                    self.tells(True, is_gain, froms, goals, spare, choice, told)
                    later = self.ask(gained, spare, choice, told)
                    self.assertTrue(is_choice(froms, goals, spare, later))
                    self.assertLess(price_of(later), price_of(choice))

    def test_all_rounds(self):
        dice = random.Random(26)
        for _ in range(40):
            froms, goals, spare = some_question(dice, dice.choice((3, 6)), 3)
            choice = shuffled_choice(dice, froms, goals, spare)
            found = 0
            for turns, end in all_rounds(spare, choice):
                wanted = is_one(spare, choice, (turns, end))
                self.tells(wanted, is_gain, froms, goals, spare, choice, (turns, end))
                if wanted:
                    found += 1
                    self.tells(behind(spare, choice, turns, end), gained, spare, choice, (turns, end))
                    self.assertTrue(is_choice(froms, goals, spare, gained(spare, choice, (turns, end))))
            self.assertEqual(found > 0, gain_of(froms, goals, spare, choice) is not None)

    def test_rounds_of_one(self):
        froms, spare = ((0, 0),), ((9, 0), (1, 0))
        self.tells(((0,), 1), gain_of, froms, (), spare, (((0, 0), (9, 0)),))
        self.tells((((0, 0), (1, 0)),), gained, spare, (((0, 0), (9, 0)),), ((0,), 1))
        self.tells(None, gain_of, froms, (), spare, (((0, 0), (1, 0)),))
        for thing, wanted in ((((0,), 1), True), (((0,), 0), False), (((0,), None), False), (((0,), True), False),
                              (((False,), 1), False), (((0,), -1), False), (((0, 0), 1), False), (((), 1), False),
                              (((-1,), 1), False), (((1,), 1), False), (([0], 1), False), ([(0,), 1], False)):
            self.tells(wanted, is_gain, froms, (), spare, (((0, 0), (9, 0)),), thing)
        # A goal that the first one has cannot stay free, however far it is.
        self.tells(False, is_gain, froms, ((9, 0),), ((1, 0),), (((0, 0), (9, 0)),), ((0,), 0))
        self.tells(None, gain_of, froms, ((9, 0),), ((1, 0),), (((0, 0), (9, 0)),))

    def test_a_round_that_keeps_the_price_is_no_gain(self):
        legs = (((0, 0), (1, 0)), ((2, 0), (1, 7)))
        self.tells(False, is_gain, ((0, 0), (2, 0)), ((1, 0), (1, 7)), (), legs, ((0, 1), None))
        self.tells(None, gain_of, ((0, 0), (2, 0)), ((1, 0), (1, 7)), (), legs)
        self.tells(False, is_gain, ((0, 0),), (), ((1, 0), (0, 1)), (((0, 0), (1, 0)),), ((0,), 1))

    def test_a_long_round(self):
        froms = tuple([(10 * at, 0) for at in range(6)])
        tos = tuple([(10 * at, 1) for at in range(6)])
        legs = tuple(zip(froms, tos[1:] + tos[:1]))
        for start in range(6):
            turns = tuple([(start - at) % 6 for at in range(6)])
            self.tells(True, is_gain, froms, tos, (), legs, (turns, None))
            self.tells(tuple(zip(froms, tos)), gained, (), legs, (turns, None))
        self.tells(tuple(zip(froms, tos)), gained_often, froms, tos, (), legs)

    def test_few(self):
        self.tells(None, gain_of, (), (), (), ())
        self.tells((), gained_often, (), (), ((1, 1),), ())
        self.tells(False, is_gain, (), (), ((1, 1),), (), ((), None))
        self.tells(False, is_gain, (), (), ((1, 1),), (), ((0,), 0))
        self.tells((((0, 0), (5, 5)),), gained_often, ((0, 0),), ((5, 5),), ((0, 0),), (((0, 0), (5, 5)),))

    def test_gained_often(self):
        dice = random.Random(27)
        for many, size in [(6, 5), (6, 999999999), (12, 4), (40, 6), (40, 100), (40, 999999999)] * 4:
            froms = some_columns(dice, size, many)
            goals = some_columns(dice, size, dice.randint(0, many))
            others = [column for column in froms + some_columns(dice, size, 9) if column not in goals]
            spare = tuple(dict.fromkeys(others))
            if len(goals) + len(spare) < many:
                continue
            choice = shuffled_choice(dice, froms, goals, spare)
            told = self.ask(gained_often, froms, goals, spare, choice)
            price, gain = price_of(choice), gain_of(froms, goals, spare, choice)
            while gain is not None:
                choice = gained(spare, choice, gain)
                self.assertLess(price_of(choice), price)
                price, gain = price_of(choice), gain_of(froms, goals, spare, choice)
            self.assertEqual(told, choice)
            self.assertEqual(price_of(told), least_price(froms, goals, spare))
            self.assertTrue(is_choice(froms, goals, spare, told))
            self.tells(told, gained_often, froms, goals, spare, told)

    def test_any_value(self):
        dice = random.Random(28)
        answers = set()
        for _ in range(25):
            froms, goals, spare = some_question(dice, 4, 4)
            choice = shuffled_choice(dice, froms, goals, spare)
            gain = gain_of(froms, goals, spare, choice) or ((0,), None)
            for thing in [gain, list(gain)] + any_values() + exchanged(gain, PARTS + [2, 3, (0,), (1, 0), (0, 1, 2)]):
                wanted = is_one(spare, choice, thing)
                answers.add(wanted)
                self.tells(wanted, is_gain, froms, goals, spare, choice, thing)
        self.assertEqual(answers, {True, False})

    def test_least_legs_have_none(self):
        dice = random.Random(29)
        for _ in range(40):
            froms, goals, spare = some_question(dice, 8, 8)
            self.tells(None, gain_of, froms, goals, spare, least_legs(froms, goals, spare))
