"""LEAST PAPERS [6], [20]: told exactly if a CHOICE has the least PRICE."""

import random

from lampsaloft.least import is_choice, least_legs, least_price, price_of
from lampsaloft.potentials import is_least_paper, potentials
from tests.test_least import all_choices, distance, some_columns, some_question
from tests.things import PARTS, LampCase, any_values, exchanged


def integers(many, thing):
    return type(thing) is tuple and len(thing) == many and all(type(part) is int for part in thing)


def is_paper(froms, goals, spare, legs, thing):
    """Whether it is a LEAST PAPER, by the words of the document."""
    if type(thing) is not tuple or len(thing) != 3:
        return False
    for columns, numbers in zip((froms, goals, spare), thing):
        if not integers(len(columns), numbers):
            return False
    us, vs, ws = thing
    tos = [leg[1] for leg in legs]
    for at, here in enumerate(froms):
        for there, number in list(zip(goals, vs)) + list(zip(spare, ws)):
            if us[at] + number > distance(here, there) or (there == tos[at] and us[at] + number != distance(here, there)):
                return False
    return all(w <= 0 and (w == 0 or column in tos) for column, w in zip(spare, ws))


def shuffled_choice(dice, froms, goals, spare):
    """A CHOICE by chance."""
    others = list(spare)
    dice.shuffle(others)
    tos = list(goals) + others[:len(froms) - len(goals)]
    dice.shuffle(tos)
    return tuple(zip(froms, tos))


class Potentials(LampCase):

    def test_told_exactly_of_the_least_price(self):
        dice = random.Random(20)
        for _ in range(120):
            froms, goals, spare = some_question(dice, dice.choice((1, 3, 10, 999999999)) + 2, 4)
            choices = list(all_choices(froms, goals, spare))
            least = min(sum(distance(*leg) for leg in choice) for choice in choices)
            for choice in choices[:40]:
                told = self.ask(potentials, froms, goals, spare, choice)
                if price_of(choice) > least:
                    self.assertIsNone(told)
                else:
                    self.assertTrue(is_paper(froms, goals, spare, choice, told))
                    self.tells(True, is_least_paper, froms, goals, spare, choice, told)

    def test_no_paper_of_a_greater_price(self):
        dice = random.Random(21)
        for _ in range(60):
            froms, goals, spare = some_question(dice, 4, 4)
            paper = potentials(froms, goals, spare, least_legs(froms, goals, spare))
            least = least_price(froms, goals, spare)
            for choice in list(all_choices(froms, goals, spare))[:40]:
                self.tells(price_of(choice) == least, is_least_paper, froms, goals, spare, choice, paper)
            self.assertEqual(sum([sum(numbers) for numbers in paper]), least)

    def test_few(self):
        self.tells(((), (), ()), potentials, (), (), (), ())
        self.tells(((), (), (0, 0)), potentials, (), (), ((1, 1), (2, 2)), ())
        stay = (((5, 5), (5, 5)),)
        self.tells(True, is_least_paper, ((5, 5),), (), ((5, 5), (9, 9)), stay, ((0,), (), (0, 0)))
        self.tells(True, is_least_paper, ((5, 5),), (), ((5, 5), (9, 9)), stay, ((1,), (), (-1, 0)))
        self.tells(False, is_least_paper, ((5, 5),), (), ((5, 5), (9, 9)), stay, ((-1,), (), (1, 0)))
        self.tells(False, is_least_paper, ((5, 5),), (), ((5, 5), (9, 9)), stay, ((1,), (), (-1, -1)))
        self.tells(False, is_least_paper, ((5, 5),), (), ((5, 5), (9, 9)), stay, ((33,), (), (-33, 0)))
        # A goal is taken, however far it is: its number may be above 0, and one from may tell below 0.
        far, there = ((0, 0),), (((0, 0), (9, 0)),)
        self.tells(True, is_least_paper, far, ((9, 0),), ((0, 0),), there, ((0,), (81,), (0,)))
        self.tells(True, is_least_paper, far, ((9, 0),), ((0, 0),), there, ((-7,), (88,), (0,)))
        self.tells(False, is_least_paper, far, ((9, 0),), ((0, 0),), there, ((1,), (80,), (0,)))
        self.tells(False, is_least_paper, far, ((9, 0),), ((0, 0),), there, ((1,), (80,), (-1,)))
        self.tells(False, is_least_paper, far, ((9, 0),), ((0, 0),), there, ((0,), (80,), (0,)))
        self.tells(True, is_least_paper, far, ((9, 0),), (), there, ((10 ** 40,), (81 - 10 ** 40,), ()))

    def test_no_goals_all_goals_all_spares(self):
        dice = random.Random(22)
        for size in (6, 999999999):
            for many in (1, 2, 7):
                for goals, spare in ((0, many), (0, many + 3), (many, 0), (many, 4), (many - 1, 1)):
                    columns = some_columns(dice, size, goals + spare)
                    question = (some_columns(dice, size, many), columns[:goals], columns[goals:])
                    legs = least_legs(*question)
                    paper = self.ask(potentials, *question, legs)
                    self.assertTrue(is_paper(*question, legs, paper))
                    self.tells(True, is_least_paper, *question, legs, paper)

    def test_equally_far_ones(self):
        froms, square = ((5, 5), (-5, -5), (5, -5), (-5, 5)), ((1, 0), (-1, 0), (0, 1), (0, -1))
        choices = list(all_choices(froms, square, ()))
        least = [choice for choice in choices if price_of(choice) == 4 * 41]
        self.assertGreater(len(least), 1)
        for choice in choices:
            self.assertEqual(potentials(froms, square, (), choice) is not None, choice in least)

    def test_40_carriers(self):
        dice = random.Random(41)
        for size in (6, 999999999):
            for many in (0, 1, 25, 40):
                froms, goals = some_columns(dice, size, 40), some_columns(dice, size, many)
                spare = tuple([column for column in froms + some_columns(dice, size, 40) if column not in goals])
                spare = tuple(dict.fromkeys(spare))
                legs = least_legs(froms, goals, spare)
                paper = self.ask(potentials, froms, goals, spare, legs)
                self.assertTrue(is_paper(froms, goals, spare, legs, paper))
                other = shuffled_choice(dice, froms, goals, spare)
                self.assertTrue(is_choice(froms, goals, spare, other))
                self.assertEqual(potentials(froms, goals, spare, other) is None, price_of(other) > price_of(legs))

    def test_any_value(self):
        dice = random.Random(24)
        answers = set()
        for _ in range(14):
            froms, goals, spare = some_question(dice, 3, 3)
            legs = least_legs(froms, goals, spare)
            paper = potentials(froms, goals, spare, legs)
            near = [tuple([tuple([number + dice.randint(-1, 1) for number in row]) for row in paper]) for _ in range(30)]
            truths = tuple([tuple([bool(number) if number in (0, 1) else number for number in row]) for row in paper])
            for thing in [paper, list(paper), truths] + near + any_values() + exchanged(paper, PARTS):
                wanted = is_paper(froms, goals, spare, legs, thing)
                answers.add(wanted)
                self.tells(wanted, is_least_paper, froms, goals, spare, legs, thing)
        self.assertEqual(answers, {True, False})
