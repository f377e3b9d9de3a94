"""Least LEGS [6], [19]."""

import random
from itertools import permutations

from lampsaloft.forms import are_legs
from lampsaloft.least import free_spares, is_choice, least_legs, least_price, matched, price_of, squared_way
from tests.things import PARTS, LampCase, any_values, exchanged


def distance(one, other):
    return (one[0] - other[0]) ** 2 + (one[1] - other[1]) ** 2


def some_columns(dice, size, many):
    told = []
    while len(told) < many:
        column = (dice.randint(-size, size), dice.randint(-size, size))
        if column not in told:
            told.append(column)
    return tuple(told)


def some_question(dice, size, most):
    froms = some_columns(dice, size, dice.randint(0, most))
    goals = dice.randint(0, len(froms))
    others = some_columns(dice, size, dice.randint(len(froms), len(froms) + 2))
    return froms, others[:goals], others[goals:]


def all_choices(froms, goals, spare):
    for tos in permutations(goals + spare, len(froms)):
        if set(goals) <= set(tos):
            yield tuple(zip(froms, tos))


def is_one(froms, goals, spare, thing):
    """Whether it is a CHOICE, by the words of the document."""
    if type(thing) is not tuple or len(thing) != len(froms):
        return False
    for leg in thing:
        if type(leg) is not tuple or len(leg) != 2:
            return False
        for column in leg:
            if type(column) is not tuple or len(column) != 2 or any(type(part) is not int for part in column):
                return False
    tos = [leg[1] for leg in thing]
    if [leg[0] for leg in thing] != list(froms) or len(set(tos)) < len(tos):
        return False
    return set(goals) <= set(tos) <= set(goals + spare)


class Least(LampCase):

    def test_ways(self):
        self.tells(25, squared_way, ((1, 1), (4, 5)))
        self.tells(0, squared_way, ((1, 1), (1, 1)))
        self.tells(0, price_of, ())
        self.tells(26, price_of, (((1, 1), (4, 5)), ((0, 0), (0, -1)), ((7, 7), (7, 7))))

    def test_least_of_all_choices(self):
        dice = random.Random(19)
        for _ in range(250):
            froms, goals, spare = some_question(dice, dice.choice((1, 3, 10, 999999999)) + 2, 5)
            told = self.ask(least_legs, froms, goals, spare)
            self.assertTrue(is_one(froms, goals, spare, told))
            self.tells(True, is_choice, froms, goals, spare, told)
            least = min([sum([distance(*leg) for leg in choice]) for choice in all_choices(froms, goals, spare)])
            self.assertEqual(price_of(told), least)
            self.tells(least, least_price, froms, goals, spare)

    def test_few(self):
        self.tells((), least_legs, (), (), ())
        self.tells((), least_legs, (), (), ((1, 1), (2, 2)))
        self.tells(0, least_price, (), (), ((1, 1),))
        self.tells((((0, 0), (9, 9)),), least_legs, ((0, 0),), ((9, 9),), ((0, 0),))
        self.tells((((0, 0), (0, 0)),), least_legs, ((0, 0),), (), ((9, 9), (0, 0)))
        # As many goals as froms: none of spare is taken, however near it is.
        self.tells((((0, 0), (90, 0)), ((1, 0), (91, 0))), least_legs, ((0, 0), (1, 0)), ((91, 0), (90, 0)), ((0, 0), (1, 0)))
        self.tells((((0, 0), (0, 7)), ((4, 0), (4, 0))), least_legs, ((0, 0), (4, 0)), ((0, 7),), ((4, 0), (0, 0)))

    def test_equally_far_goals(self):
        square = ((1, 0), (-1, 0), (0, 1), (0, -1))
        told = self.ask(least_legs, ((0, 0),), (), square)
        self.assertEqual(price_of(told), 1)
        told = self.ask(least_legs, ((5, 5), (-5, -5), (5, -5), (-5, 5)), square, ())
        self.assertEqual(price_of(told), 4 * 41)

    def test_crossless(self):
        dice = random.Random(6)
        for _ in range(60):
            froms, goals, spare = some_question(dice, dice.choice((4, 30)), 12)
            legs = least_legs(froms, goals, spare)
            for a, to in legs:
                for b, other in legs:
                    turn = (b[0] - a[0]) * (other[0] - to[0]) + (b[1] - a[1]) * (other[1] - to[1])
                    self.assertGreaterEqual(turn, 0)

    def test_40_carriers_by_numbers_that_prove_it(self):
        dice = random.Random(40)
        for size in (6, 100, 999999999):
            for many in (0, 1, 25, 40):
                froms, goals = some_columns(dice, size, 40), some_columns(dice, size, many)
                spare = tuple([column for column in froms if column not in goals])
                if len(goals) + len(spare) < 40:
                    continue
                legs = least_legs(froms, goals, spare)
                self.assertTrue(is_one(froms, goals, spare, legs))
                # [6]: sums that are nowhere above a squared WAY, but for the goals, which are all taken, by one number.
                found = matched(froms, goals, spare)
                price = sum(found.us) + sum(found.vs)
                bonuses = {distance(*leg) - found.us[at] - found.vs[(goals + spare).index(leg[1])]
                           for at, leg in enumerate(legs) if leg[1] in goals}
                self.assertLessEqual(len(bonuses), 1)
                bonus = max(bonuses, default=0)
                ws = found.vs[len(goals):]
                vs = [v + bonus for v in found.vs[:len(goals)]]
                taken = [leg[1] for leg in legs]
                self.assertTrue(all(w <= 0 for w in ws))
                self.assertTrue(all(w == 0 for w, column in zip(ws, spare) if column not in taken))
                for a, u in zip(froms, found.us):
                    for b, v in zip(goals + spare, vs + ws):
                        self.assertLessEqual(u + v, distance(a, b))
                self.assertEqual(price + bonus * len(goals), price_of(legs))

    def test_is_choice(self):
        dice = random.Random(7)
        answers = set()
        for _ in range(12):
            froms, goals, spare = some_question(dice, 4, 3)
            for choice in list(all_choices(froms, goals, spare))[:2]:
                for thing in [choice] + any_values() + exchanged(choice, PARTS + list(goals + spare)):
                    wanted = is_one(froms, goals, spare, thing)
                    answers.add(wanted)
                    self.tells(wanted, is_choice, froms, goals, spare, thing)
        self.assertEqual(answers, {True, False})

    def test_is_choice_needs_all_goals(self):
        froms, goals, spare = ((0, 0), (4, 0)), ((4, 1),), ((1, 0), (9, 9))
        self.tells(True, is_choice, froms, goals, spare, (((0, 0), (9, 9)), ((4, 0), (4, 1))))
        self.tells(False, is_choice, froms, goals, spare, (((0, 0), (9, 9)), ((4, 0), (1, 0))))
        self.tells(False, is_choice, froms, goals, spare, (((4, 0), (4, 1)), ((0, 0), (9, 9))))
        self.tells(False, is_choice, froms, goals, spare, (((0, 0), (4, 1)), ((4, 0), (4, 1))))
        self.tells(False, is_choice, froms, goals, spare, (((0, 0), (4, 1)), ((4, 0), (7, 7))))
        self.tells(False, is_choice, froms, goals, spare, (((False, 0), (9, 9)), ((4, 0), (4, 1))))

    def test_free_spares(self):
        dice = random.Random(8)
        for _ in range(60):
            froms, goals, spare = some_question(dice, 5, 6)
            legs = least_legs(froms, goals, spare)
            self.assertTrue(are_legs(legs))
            tos = [to for _, to in legs]
            self.tells(tuple([at for at, column in enumerate(spare) if column not in tos]), free_spares, spare, legs)
        self.tells((0, 1), free_spares, ((1, 1), (2, 2)), ())
        self.tells((), free_spares, (), (((1, 1), (2, 2)),))
