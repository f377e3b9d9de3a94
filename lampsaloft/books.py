"""BOOKS [41]: papers that show of each scene that nothing could be done with less, and that all stay apart."""

from lampsaloft.apartpapers import apart_paper
from lampsaloft.editions import edition_of, question_of, standing_at_first, standing_behind
from lampsaloft.forms import r_of, rho_of
from lampsaloft.least import least_legs
from lampsaloft.potentials import potentials
from lampsaloft.rows import rows_paper


def couples_of(edition):
    """The list of the couples of LEGS of an EDITION, carriers ascending, in the order of their APART PAPERS."""
    legs = [edition[carrier] for carrier in sorted(edition)]
    return [(leg, other) for at, leg in enumerate(legs) for other in legs[at + 1:]]


def page_of(show, scene, standing):
    """A PAGE of a scene for a STANDING."""
    bounds, _, _, scenes = show
    ticks, _, picture = scenes[scene]
    froms, goals, spare = question_of(show, scene, standing)
    legs = least_legs(froms, goals, spare)
    edition = edition_of(show, standing, legs)
    rho, r = rho_of(bounds, ticks), r_of(bounds)
    aparts = tuple([apart_paper(leg, other, rho, r) for leg, other in couples_of(edition)])
    return (rows_paper(picture, bounds[0]), legs, potentials(froms, goals, spare, legs), edition, aparts)


def book_of(show):
    """A BOOK: a PAGE for each scene, each for the STANDING behind the one ahead."""
    standing = standing_at_first(show)
    pages = []
    for scene in range(len(show[3])):
        pages.append(page_of(show, scene, standing))
        standing = standing_behind(standing, pages[-1][3])
    return tuple(pages)


def standings_of(show, book):
    """The list of the STANDINGS ahead of each of the first PAGES of a BOOK, and behind the last one."""
    standings = [standing_at_first(show)]
    for page in book:
        standings.append(standing_behind(standings[-1], page[3]))
    return standings
