"""SEATS [18]."""

import random

from lampsaloft.rows import rows_of
from lampsaloft.seats import (
    are_spaced, closest, dark_of, depth_of, fame, first_near, goals_of, lamp_at, seats_of, seen_from)
from tests.test_pictures import some_picture
from tests.things import LampCase


def distance(one, other):
    return (one[0] - other[0]) ** 2 + (one[1] - other[1]) ** 2


def couples(columns):
    return [(distance(columns[i], columns[j]), i, j) for j in range(len(columns)) for i in range(j)]


class Seats(LampCase):

    def setUp(self):
        dice = random.Random(18)
        self.pictures = [()] + [some_picture(dice, dice.choice((2, 5, 30)), dice.randint(1, 25)) for _ in range(60)]

    def test_seats(self):
        for picture in self.pictures:
            for spacing in (1, 2, 3, 7, 1000, 999999999):
                wanted = tuple([(lamp[0], row * spacing) for lamp, row in zip(picture, rows_of(picture, spacing))])
                self.tells(wanted, seats_of, picture, spacing)
                self.tells(True, are_spaced, wanted, spacing)
                self.tells(max([y for _, y in wanted] + [0]), depth_of, picture, spacing)

    def test_near(self):
        dice = random.Random(2)
        for _ in range(300):
            size = dice.choice((2, 10, 40, 999999999))
            columns = [(dice.randint(-size, size), dice.randint(-size, size)) for _ in range(dice.randint(0, 12))]
            for spacing in (1, 2, 5, 9, 999999999):
                near = [(i, j) for squared, i, j in couples(columns) if squared < spacing * spacing]
                self.tells(min(near) if near else None, first_near, columns, spacing)
                self.tells(not near, are_spaced, tuple(columns), spacing)
            self.tells(min(couples(columns)) if len(columns) > 1 else None, closest, columns)
            self.tells(min(couples(columns)) if len(columns) > 1 else None, closest, tuple(columns))

    def test_near_at_the_edge(self):
        self.tells(None, first_near, ((0, 0), (3, 4)), 5)
        self.tells((0, 1), first_near, ((0, 0), (3, 4)), 6)
        self.tells(None, first_near, ((-1, 0), (0, 0)), 1)
        self.tells((0, 1), first_near, ((-1, 0), (0, 0)), 2)
        self.tells((1, 3), first_near, ((0, 0), (9, 9), (50, 0), (9, 9)), 1)
        self.tells((0, 3), first_near, ((0, 0), (9, 9), (9, 9), (1, 0)), 2)
        self.tells((0, 2), first_near, ((0, 0), (99, 9), (4, 0), (1, 0)), 5)
        for columns in ((), [], ((5, 5),), [(5, 5)]):
            self.tells(None, first_near, columns, 999999999)
            self.tells(True, are_spaced, columns, 999999999)
            self.tells(None, closest, columns)

    def test_closest_of_several(self):
        self.tells((0, 0, 2), closest, ((7, 7), (0, 0), (7, 7), (0, 0)))
        self.tells((1, 0, 1), closest, [(0, 0), (0, 1), (1, 0)])
        self.tells((1, 0, 3), closest, [(0, 0), (5, 5), (5, 6), (1, 0)])

    def test_fame(self):
        for picture in self.pictures:
            order = sorted(range(len(picture)), key=lambda at: (-picture[at][3], at))
            self.tells(tuple(order), fame, picture)
            seats = seats_of(picture, 3)
            for many in (0, 1, 2, len(picture) - 1, len(picture), len(picture) + 1, 1000):
                if many >= 0:
                    self.tells(tuple([seats[at] for at in order[:many]]), goals_of, picture, 3, many)
                    self.tells(tuple(sorted(order[many:])), dark_of, picture, many)

    def test_fame_of_equal_weights(self):
        picture = tuple([(x, 0, ("red",), weight) for x, weight in enumerate((1, 4, 1, 4, 0))])
        self.tells((1, 3, 0, 2, 4), fame, picture)
        self.tells((), dark_of, picture, 5)
        self.tells((2, 4), dark_of, picture, 3)

    def test_lamp_at(self):
        for picture in self.pictures:
            seats = seats_of(picture, 3)
            for index, seat in enumerate(seats):
                self.tells(index, lamp_at, picture, 3, seat)
                for column in ((seat[0] + 1, seat[1]), (seat[0], seat[1] + 1), (seat[0], -3)):
                    self.tells(seats.index(column) if column in seats else None, lamp_at, picture, 3, column)
        self.tells(None, lamp_at, (), 3, (0, 0))

    def test_seen_from(self):
        dice = random.Random(3)
        for picture in self.pictures:
            seats = list(seats_of(picture, 4))
            for tick in (0, 1, 5, 10000):
                columns = dice.sample(seats, dice.randint(0, len(seats))) + [(1000, 0), (0, -1)]
                wanted = tuple([(lamp[0], lamp[1], lamp[2][tick % len(lamp[2])])
                                for lamp, seat in zip(picture, seats) if seat in columns])
                self.tells(wanted, seen_from, picture, 4, columns, tick)
                self.tells(wanted, seen_from, picture, 4, tuple(columns[::-1]), tick)
        self.tells((), seen_from, (), 4, [(0, 0)], 0)
        self.tells((), seen_from, ((0, 0, ("red",), 0),), 4, [], 0)

    def test_3000_lamps(self):
        for picture in (tuple([(x, 0, ("red",), x % 3) for x in range(3000)]), tuple([(5, z, ("red",), 0) for z in range(3000)])):
            seats = seats_of(picture, 20)
            self.assertIs(are_spaced(seats, 20), True)
            self.assertIs(are_spaced(seats, 21), False)
            self.assertEqual(closest(seats), (400, 0, 20 if picture[0][0] == 0 else 1))
            self.assertEqual(len(goals_of(picture, 20, 40)), 40)
            self.assertEqual(len(dark_of(picture, 40)), 2960)
