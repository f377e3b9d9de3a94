"""What holds of a BOOK when a SCENE is another one [43]."""

import random

from lampsaloft.bookjudge import is_book
from lampsaloft.books import book_of, page_of, standings_of
from lampsaloft.kept import changed
from lampsaloft.verdicts import is_let_by
from tests.showcase import show_with, some_scene, with_charge
from tests.things import LampCase

PICTURE = ((0, 5, ("red",), 1), (30, 5, ("blue",), 2))
ONE, OTHER = (150, 30, PICTURE), (150, 30, PICTURE[1:])
SHOW = ((20, 8, 1, 0, 3, 70, 2, 1, 5), ((0, 60), (30, 60)), (3000, 1, 2), (ONE, OTHER, ONE, OTHER))


def other_show(show, index, scene):
    return show[:3] + (show[3][:index] + (scene,) + show[3][index + 1:],)


class Kept(LampCase):

    def check(self, show, book, index, scene):
        """What is told, by the words of the document; returns which PAGES were made."""
        later, kept, made = self.ask(changed, show, book, index, scene)
        self.assertEqual(later, other_show(show, index, scene))
        self.assertIs(is_book(later, kept), True)
        before, behind = standings_of(show, book), standings_of(later, kept)
        wanted = [at for at in range(index, len(book)) if at == index or before[at] != behind[at]]
        self.assertEqual(made, tuple(wanted))
        for at, page in enumerate(kept):
            if at in made:
                self.assertEqual(repr(page), repr(page_of(later, at, behind[at])))
            else:
                self.assertEqual(page, book[at])
            self.assertEqual(list(page[3]), sorted(page[3]))
            self.assertIsNot(page[3], book[at][3])
        if book == book_of(show):
            self.assertEqual(repr(kept), repr(book_of(later)))
        return made

    def test_each_index(self):
        book = book_of(SHOW)
        longer = (160, 40, PICTURE)
        self.assertEqual([self.check(SHOW, book, index, SHOW[3][index]) for index in range(4)], [(0,), (1,), (2,), (3,)])
        self.assertEqual([self.check(SHOW, book, index, longer) for index in range(4)], [(0,), (1, 2), (2,), (3,)])
        self.assertEqual([self.check(SHOW, book, index, (150, 30, ())) for index in range(4)], [(0, 1), (1, 2), (2, 3), (3,)])

    def test_a_change_goes_on_as_far_as_it_is_felt(self):
        # Of one lamp and two pads it counts to the end who is at the lamp.
        scenes = ((150, 30, PICTURE[1:]),) + ((150, 30, PICTURE[:1]),) * 4
        show = SHOW[:3] + (scenes,)
        book = book_of(show)
        self.assertEqual(self.check(show, book, 0, (150, 30, PICTURE)), (0, 1, 2, 3, 4))
        self.assertEqual(self.check(show, book, 0, (160, 30, PICTURE[1:])), (0,))
        # Behind a scene with a lamp for each it is forgotten who was where.
        show = SHOW[:3] + (scenes[:2] + (ONE,) + scenes[2:],)
        self.assertEqual(self.check(show, book_of(show), 0, (150, 30, PICTURE[:1])), (0, 1, 2))

    def test_any_change(self):
        dice = random.Random(43)
        mades = []
        while len(mades) < 80:
            show = show_with(dice, ("always", "this"), 4, 5)
            book = book_of(show)
            index = dice.randrange(len(show[3]))
            scene = some_scene(dice, show[0], show[3][index][0] + dice.choice((0, 5)), len(show[1]))
            if dice.random() < 0.3:
                scene = (scene[0], scene[1], show[3][dice.randrange(len(show[3]))][2])
            rich = show[:2] + (with_charge(other_show(show, index, scene), 10 ** 4)[2],) + show[3:]
            if is_let_by(rich) and is_let_by(other_show(rich, index, scene)):
                made = self.check(rich, book, index, scene)
                mades.append((index, len(made), len(book)))
        self.assertGreater(len(set(mades)), 12)

    def test_a_book_by_another_hand(self):
        # Papers that are not those of page_of, keys in another order: what is not made anew is kept as it is.
        book = book_of(SHOW)
        page = book[3]
        us, vs, ws = page[2]
        other = page[:3] + ({1: page[3][1], 0: page[3][0]}, (("away", (3, 0)),))
        some = book[:3] + (other,)
        self.assertIs(is_book(SHOW, some), True)
        _, kept, made = self.ask(changed, SHOW, some, 0, ONE)
        self.assertEqual([made, kept[3][4], list(kept[3][3])], [(0,), (("away", (3, 0)),), [0, 1]])
        _, kept, made = self.ask(changed, SHOW, some, 3, OTHER)
        self.assertEqual([made, kept[3]], [(3,), page])

    def test_what_is_told_is_new(self):
        book = book_of(SHOW)
        _, kept, _ = changed(SHOW, book, 1, ONE)
        for page in kept:
            page[3].clear()
        self.assertEqual(book, book_of(SHOW))
