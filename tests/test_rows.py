"""ROWS of depth [17], and that there are never fewer [5]."""

import random
from itertools import product

from lampsaloft.rows import is_rows, is_rows_paper, most_abreast, rows_many, rows_of, rows_paper
from tests.test_pictures import some_picture
from tests.things import PARTS, LampCase, any_values, exchanged


def picture_at(xs):
    """A PICTURE with LAMPS at these x, one above the other."""
    return tuple([(x, z, ("red",), 0) for z, x in sorted(enumerate(xs), key=lambda one: (one[1], one[0]))])


def slow_rows(picture, spacing):
    rows = []
    for at, lamp in enumerate(picture):
        taken = {rows[k] for k in range(at) if abs(picture[k][0] - lamp[0]) < spacing}
        rows.append(min(set(range(at + 1)) - taken))
    return tuple(rows)


def are_rows(picture, spacing, thing):
    if type(thing) is not tuple or len(thing) != len(picture) or any(type(row) is not int or row < 0 for row in thing):
        return False
    return all(thing[i] != thing[j] or abs(picture[i][0] - picture[j][0]) >= spacing
               for i in range(len(thing)) for j in range(i))


def are_paper(picture, spacing, thing):
    if type(thing) is not tuple or len(thing) != 3 or not are_rows(picture, spacing, thing[0]) or type(thing[1]) is not int:
        return False
    if thing[1] != (1 + sorted(thing[0])[-1] if thing[0] else 0):
        return False
    if not picture:
        return thing[2] is None
    return type(thing[2]) is int and sum(1 for lamp in picture if 0 <= lamp[0] - thing[2] < spacing) >= thing[1]


class Rows(LampCase):

    def setUp(self):
        dice = random.Random(17)
        self.pictures = [()] + [some_picture(dice, dice.choice((2, 5, 30)), dice.randint(1, 25)) for _ in range(80)]

    def test_rows_of(self):
        for picture in self.pictures:
            for spacing in (1, 2, 3, 7, 1000, 999999999):
                self.tells(slow_rows(picture, spacing), rows_of, picture, spacing)

    def test_spacing_at_its_edge(self):
        for apart, rows in ((2, (0, 1)), (3, (0, 0)), (4, (0, 0))):
            self.tells(rows, rows_of, picture_at([10, 10 + apart]), 3)
        self.tells((0, 1, 2, 0, 3), rows_of, picture_at([0, 1, 2, 3, 3]), 3)
        self.tells((0, 1), rows_of, picture_at([4, 4]), 1)
        self.tells((0, 0), rows_of, picture_at([-4, -3]), 1)

    def test_rows_many(self):
        for rows, many in (((), 0), ((0,), 1), ((0, 1, 2, 0, 3), 4), ((7,), 8), ((0, 0, 0), 1)):
            self.tells(many, rows_many, rows)

    def test_most_abreast(self):
        for picture in self.pictures:
            for spacing in (1, 2, 3, 7, 1000, 999999999):
                wanted = (0, None)
                for x in sorted({lamp[0] for lamp in picture}):
                    many = sum(1 for lamp in picture if x <= lamp[0] < x + spacing)
                    if many > wanted[0]:
                        wanted = (many, x)
                self.tells(wanted, most_abreast, picture, spacing)
                # No stretch that begins anywhere else has more of them.
                if picture and picture[-1][0] - picture[0][0] < 70 and spacing < 10:
                    for x in range(picture[0][0] - spacing, picture[-1][0] + 1):
                        self.assertLessEqual(sum(1 for lamp in picture if x <= lamp[0] < x + spacing), wanted[0])

    def test_there_are_just_as_many_rows_as_abreast(self):
        for picture in self.pictures:
            for spacing in (1, 2, 3, 7, 1000):
                self.assertEqual(rows_many(rows_of(picture, spacing)), most_abreast(picture, spacing)[0])

    def test_no_rows_of_a_lesser_number(self):
        dice = random.Random(5)
        for _ in range(40):
            picture = picture_at([dice.randint(0, 6) for _ in range(dice.randint(1, 6))])
            spacing = dice.randint(1, 4)
            many = rows_many(rows_of(picture, spacing))
            least = [few for few in range(1, len(picture) + 1)
                     if any(are_rows(picture, spacing, rows) for rows in product(range(few), repeat=len(picture)))][0]
            self.assertEqual(many, least)

    def test_is_rows(self):
        for picture in self.pictures[:20]:
            for spacing in (1, 3, 1000):
                good = rows_of(picture, spacing)
                self.tells(True, is_rows, picture, spacing, good)
                wide = tuple([10 ** 30 * (at + 1) for at in range(len(picture))])
                self.tells(True, is_rows, picture, spacing, wide)
                for thing in any_values() + exchanged(good, PARTS + [2, 3]):
                    self.tells(are_rows(picture, spacing, thing), is_rows, picture, spacing, thing)

    def test_rows_paper(self):
        for picture in self.pictures:
            for spacing in (1, 2, 7, 1000):
                paper = self.ask(rows_paper, picture, spacing)
                self.assertTrue(are_paper(picture, spacing, paper))
                self.tells(True, is_rows_paper, picture, spacing, paper)
        self.tells(((), 0, None), rows_paper, (), 3)

    def test_is_rows_paper(self):
        answers = set()
        for picture in self.pictures[:15]:
            for spacing in (1, 3, 1000):
                paper = rows_paper(picture, spacing)
                near = [paper[:2] + (x,) for x in range(-12, 13)] + [paper[:1] + (paper[1] + k,) + paper[2:] for k in (-1, 1)]
                for thing in any_values() + exchanged(paper, PARTS) + near:
                    answers.add(self.ask(is_rows_paper, picture, spacing, thing))
                    self.tells(are_paper(picture, spacing, thing), is_rows_paper, picture, spacing, thing)
        self.assertEqual(answers, {True, False})

    def test_rows_paper_with_more_rows_than_needed(self):
        picture = picture_at([0, 1, 9])
        self.tells(True, is_rows_paper, picture, 2, ((0, 1, 0), 2, 0))
        self.tells(False, is_rows_paper, picture, 2, ((0, 1, 2), 3, 0))
        self.tells(False, is_rows_paper, picture, 2, ((0, 2, 0), 3, 0))
        self.tells(False, is_rows_paper, picture, 2, ((0, 1, 0), 2, 1))
        self.tells(False, is_rows_paper, picture, 2, ((0, 1, 0), 2, None))
        self.tells(False, is_rows_paper, (), 2, ((), False, None))
        self.tells(False, is_rows_paper, (), 2, ((), 0, 0))

    def test_3000_lamps(self):
        wide = picture_at(list(range(3000)))
        self.assertEqual(rows_many(rows_of(wide, 3000)), 3000)
        self.assertEqual(rows_of(wide, 7), tuple([x % 7 for x in range(3000)]))
        self.assertEqual(most_abreast(wide, 10), (10, 0))
        high = picture_at([5] * 3000)
        self.assertEqual(rows_of(high, 1), tuple(range(3000)))
        self.assertIs(is_rows_paper(high, 1, rows_paper(high, 1)), True)
