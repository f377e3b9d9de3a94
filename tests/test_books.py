"""PAGES and BOOKS [41], and what tells that any values are such [42]."""

import random

from lampsaloft.apartpapers import apart_paper, is_apart_paper
from lampsaloft.bookjudge import first_wrong, is_book, is_page
from lampsaloft.books import book_of, page_of, standings_of
from lampsaloft.editions import edition_for, is_right_edition, standing_at_first
from lampsaloft.flights import is_flight_apart
from lampsaloft.least import is_choice, least_legs, least_price, price_of
from lampsaloft.potentials import is_least_paper, potentials
from lampsaloft.rows import is_rows_paper, rows_paper
from tests.showcase import goals_told, lag_of, show_with, with_charge
from tests.test_editions import some_standing
from tests.test_least import distance
from tests.things import PARTS, LampCase, any_values, exchanged

PICTURE = ((0, 5, ("red",), 1), (30, 5, ("blue",), 2))
ONE, OTHER = (150, 30, PICTURE), (150, 30, PICTURE[1:])
SHOW = ((20, 8, 1, 0, 3, 70, 2, 1, 5), ((0, 60), (30, 60)), (900, 1, 2), (ONE, OTHER))


def question(show, scene, standing):
    froms = tuple([standing[carrier] for carrier in sorted(standing)])
    return froms, tuple(goals_told(show, scene, len(froms))), show[1]


def r_and_rho(show, scene):
    bounds = show[0]
    lag, ticks = lag_of(bounds), show[3][scene][0]
    common = max(one for one in range(1, ticks + 1) if lag % one == 0 and ticks % one == 0)
    return bounds[1] + 2 * bounds[2], (lag // common, ticks // common)


def is_page_told(show, scene, standing, thing):
    """Whether it is a PAGE, by the words of the document, its papers being told by what stages 3 to 5 tell of them."""
    if type(thing) is not tuple or len(thing) != 5:
        return False
    rows, legs, paper, edition, aparts = thing
    if not is_rows_paper(show[3][scene][2], show[0][0], rows):
        return False
    froms, goals, pads = question(show, scene, standing)
    if not is_choice(froms, goals, pads, legs) or price_of(legs) != least_price(froms, goals, pads):
        return False
    if not is_least_paper(froms, goals, pads, legs, paper):
        return False
    stays = any(distance(*leg) > show[0][5] ** 2 for leg in legs)
    wanted = [(carrier, (leg[0], leg[0]) if stays else leg) for carrier, leg in zip(sorted(standing), legs)]
    if type(edition) is not dict or repr(wanted) != repr(sorted_items(edition)):
        return False
    flown = [leg for _, leg in wanted]
    couples = [(flown[i], flown[j]) for i in range(len(flown)) for j in range(i + 1, len(flown))]
    if type(aparts) is not tuple or len(aparts) != len(couples):
        return False
    r, rho = r_and_rho(show, scene)
    return all(is_apart_paper(*couple, rho, r, one) and one[0] == "away" for couple, one in zip(couples, aparts))


def sorted_items(edition):
    """The items of a dict by how Python shows the keys: they may be of any kinds."""
    return sorted(edition.items(), key=lambda item: (len(repr(item[0])), repr(item[0])))


class Books(LampCase):

    def test_page_of(self):
        dice = random.Random(41)
        kinds = set()
        for _ in range(160):
            show = show_with(dice, ("always", "this"))
            scene = dice.randrange(len(show[3]))
            standing = some_standing(dice, show, scene)
            told = self.ask(page_of, show, scene, standing)
            froms, goals, pads = question(show, scene, standing)
            legs = least_legs(froms, goals, pads)
            edition = edition_for(show, scene, standing)
            flown = list(edition.values())
            r, rho = r_and_rho(show, scene)
            aparts = [apart_paper(flown[i], flown[j], rho, r) for i in range(len(flown)) for j in range(i + 1, len(flown))]
            wanted = (rows_paper(show[3][scene][2], show[0][0]), legs, potentials(froms, goals, pads, legs), edition, tuple(aparts))
            self.assertEqual(repr(told), repr(wanted))
            self.assertTrue(is_page_told(show, scene, standing, told))
            self.tells(True, is_page, show, scene, standing, told)
            kinds.add((len(standing), tuple(flown) == legs))
        self.assertTrue({(0, True), (1, True), (4, True), (4, False)} <= kinds)

    def test_page_of_nobody(self):
        told = self.ask(page_of, SHOW, 0, {})
        self.assertEqual(told, (rows_paper(PICTURE, 20), (), ((), (), (0, 0)), {}, ()))
        self.tells(True, is_page, SHOW, 0, {}, told)

    def test_book_of_and_standings_of(self):
        dice = random.Random(42)
        for _ in range(40):
            show = show_with(dice, ("always", "this"))
            book = self.ask(book_of, show)
            self.assertEqual(len(book), len(show[3]))
            standing, standings = standing_at_first(show), []
            for scene, page in enumerate(book):
                self.assertEqual(repr(page), repr(page_of(show, scene, standing)))
                self.assertTrue(is_right_edition(show, scene, standing, page[3]))
                self.assertTrue(is_flight_apart(show[0], show[3][scene][0], tuple(page[3].values())))
                standings.append(standing)
                standing = {carrier: leg[1] for carrier, leg in page[3].items()}
            standings.append(standing)
            for many in range(len(book) + 1):
                self.tells(standings[:many + 1], standings_of, show, book[:many])
            self.tells(True, is_book, show, book)
            self.tells(None, first_wrong, show, book)

    def test_many_carriers(self):
        pads = tuple([(25 * at, -60) for at in range(12)])
        lamps = tuple([(25 * at + at % 3, 5, ("red",), at % 4) for at in range(14)])
        show = with_charge(((20, 8, 1, 2, 6, 900, 3, 4, 12), pads, (0, 1, 2), ((9000, 40, lamps), (9000, 40, lamps[::2]))))
        book = book_of(show)
        self.tells(True, is_book, show, book)
        for page in book:
            self.assertEqual([len(page[3]), len(page[4])], [12, 66])
            self.assertTrue(all(here != there for here, there in page[3].values()) or page is book[1])
        self.tells(True, is_right_edition, show, 0, standing_at_first(show), book[0][3])

    def test_what_is_told_is_new(self):
        book = book_of(SHOW)
        for page in book:
            page[3].clear()
        again = book_of(SHOW)
        self.assertEqual([len(page[3]) for page in again], [2, 2])
        standings = standings_of(SHOW, again)
        for standing in standings:
            standing.clear()
        standings.clear()
        self.assertEqual([len(page[3]) for page in again], [2, 2])
        self.assertEqual(len(standings_of(SHOW, again)[0]), 2)


class Judge(LampCase):

    def test_pages_with_other_parts(self):
        dice = random.Random(43)
        answers = set()
        for at in range(14):
            show = show_with(dice, ("always", "this"), 3, 2)
            scene = dice.randrange(len(show[3]))
            standing = some_standing(dice, show, scene)
            good = page_of(show, scene, standing)
            other = page_of(show, scene, some_standing(dice, show, scene))
            things = [good, other, list(good), good[:4] + (dict(good[3]),)]
            things += [good[:place] + (other[place],) + good[place + 1:] for place in range(5)]
            things += exchanged(good, PARTS[:3] + PARTS[3:6] + ["away", ()]) if at < 9 else any_values()
            things.append(good[:3] + (dict(reversed(good[3].items())), good[4]))
            for thing in things:
                wanted = is_page_told(show, scene, standing, thing)
                answers.add(wanted)
                self.tells(wanted, is_page, show, scene, standing, thing)
        self.assertEqual(answers, {True, False})

    def test_pages_of_others(self):
        first = standing_at_first(SHOW)
        good = page_of(SHOW, 0, first)
        self.tells(True, is_page, SHOW, 0, first, good)
        self.tells(False, is_page, SHOW, 1, first, good)
        self.tells(False, is_page, SHOW, 0, {0: (0, 60)}, good)
        self.tells(False, is_page, SHOW, 0, {}, good)
        self.tells(False, is_page, SHOW, 0, {0: (30, 60), 1: (0, 60)}, good)
        rows, legs, paper, edition, aparts = good
        away = ("away", (1, 0))
        self.assertEqual(aparts, (away,))
        for some in ((), (away, away), (("away", (2, 0)),), (("away", (-1, 0)),), (("away", (1, 1)),), [away], (["away", (1, 0)],),
                     (("near", (0, 1), (0, 1)),), (("away", (1, 0), 0),), (("away", (True, 0)),), (away, None), (None,)):
            thing = good[:4] + (some,)
            self.tells(is_page_told(SHOW, 0, first, thing), is_page, SHOW, 0, first, thing)
        self.tells(True, is_page, SHOW, 0, first, good[:4] + ((("away", (2, 0)),),))
        crossed = (((0, 60), (30, 0)), ((30, 60), (0, 0)))
        self.tells(False, is_page, SHOW, 0, first, (rows, crossed, paper, dict(enumerate(crossed)), aparts))
        self.tells(False, is_page, SHOW, 0, first, (rows, legs, paper, {0: (legs[0][0],) * 2, 1: (legs[1][0],) * 2}, aparts))
        # The numbers of a LEAST PAPER may be others, if they show the same.
        us, vs, ws = paper
        more = (tuple([u + 1 for u in us]), tuple([v - 1 for v in vs]), ws)
        self.tells(is_page_told(SHOW, 0, first, (rows, legs, more, edition, aparts)), is_page, SHOW, 0, first,
                   (rows, legs, more, edition, aparts))
        self.tells(False, is_page, SHOW, 0, first, (rows, legs, (us, vs, (1, 0)), edition, aparts))
        self.tells(False, is_page, SHOW, 0, first, (rows, legs, paper, {False: legs[0], True: legs[1]}, aparts))

    def test_a_stay_in_place_of_what_is_too_far(self):
        near = ((20, 8, 1, 0, 3, 59, 2, 1, 5),) + SHOW[1:]
        first = standing_at_first(near)
        stay = {0: ((0, 60), (0, 60)), 1: ((30, 60), (30, 60))}
        good = page_of(near, 0, first)
        self.assertEqual([good[1], good[3]], [(((0, 60), (0, 0)), ((30, 60), (30, 0))), stay])
        self.tells(True, is_page, near, 0, first, good)
        self.tells(False, is_page, near, 0, first, good[:3] + (dict(enumerate(good[1])), good[4]))
        self.tells(False, is_page, near, 0, first, (good[0], tuple(stay.values())) + good[2:])
        self.tells(True, is_book, near, book_of(near))

    def test_books(self):
        book = book_of(SHOW)
        twice = (book[0], book[0])
        for thing, wrong in ((book[:1], None), ((), None), (twice, 1), ((book[1], book[0]), 0), ((None, book[1]), 0),
                             ((book[0], None), 1), ((book[0], list(book[1])), 1), ((book[1],), 0)):
            self.tells(wrong, first_wrong, SHOW, thing)
            self.tells(False, is_book, SHOW, thing)
        for thing in any_values() + [list(book), book + (book[1],), book + (None,), {0: book[0], 1: book[1]}]:
            self.tells(False, is_book, SHOW, thing)
            if isinstance(thing, tuple) and 0 < len(thing) <= 2:
                self.tells(0, first_wrong, SHOW, thing)

    def test_books_with_other_parts(self):
        dice = random.Random(44)
        answers = set()
        cases = [(SHOW, book_of(SHOW))] + [(show, book_of(show)) for show in
                                           [show_with(dice, ("always", "this"), 2, 2) for _ in range(4)]]
        for show, book in cases:
            for thing in exchanged(book, [None, True, 0, 1, (), book[0], ("away", (1, 0))]):
                wanted = None
                if type(thing) is tuple:
                    standing = standing_at_first(show)
                    for index, page in enumerate(thing[:len(show[3])]):
                        if not is_page_told(show, index, standing, page):
                            wanted = index
                            break
                        standing = {carrier: leg[1] for carrier, leg in page[3].items()}
                    if len(thing) <= len(show[3]):
                        self.tells(wanted, first_wrong, show, thing)
                right = type(thing) is tuple and len(thing) == len(show[3]) and wanted is None
                answers.add(right)
                self.tells(right, is_book, show, thing)
        self.assertEqual(answers, {True, False})
