"""Whether any values are PAGES and BOOKS [42]: told by their papers alone."""

from lampsaloft.apartpapers import is_apart_paper
from lampsaloft.books import couples_of
from lampsaloft.editions import edition_of, question_of, standing_at_first, standing_behind
from lampsaloft.forms import is_edition, r_of, rho_of
from lampsaloft.least import is_choice
from lampsaloft.potentials import is_least_paper
from lampsaloft.rows import is_rows_paper


def _are_aparts(show, scene, edition, thing):
    """Whether any value is a tuple with an APART PAPER ("away", ..) for each two LEGS of an EDITION."""
    couples = couples_of(edition)
    if not isinstance(thing, tuple) or len(thing) != len(couples):
        return False
    rho, r = rho_of(show[0], show[3][scene][0]), r_of(show[0])
    for (leg, other), paper in zip(couples, thing):
        if not is_apart_paper(leg, other, rho, r, paper) or paper[0] != "away":
            return False
    return True


def is_page(show, scene, standing, thing):
    """Whether any value is a PAGE of a scene for a STANDING."""
    if not isinstance(thing, tuple) or len(thing) != 5:
        return False
    rows, legs, paper, edition, aparts = thing
    if not is_rows_paper(show[3][scene][2], show[0][0], rows):
        return False
    froms, goals, spare = question_of(show, scene, standing)
    if not is_choice(froms, goals, spare, legs) or not is_least_paper(froms, goals, spare, legs, paper):
        return False
    if not is_edition(len(show[1]), edition) or edition != edition_of(show, standing, legs):
        return False
    return _are_aparts(show, scene, edition, aparts)


def first_wrong(show, things):
    """The index of the first of some values that is no PAGE behind those ahead, None if each is one."""
    standing = standing_at_first(show)
    for index, thing in enumerate(things):
        if not is_page(show, index, standing, thing):
            return index
        standing = standing_behind(standing, thing[3])
    return None


def is_book(show, thing):
    """Whether any value is a BOOK."""
    return isinstance(thing, tuple) and len(thing) == len(show[3]) and first_wrong(show, thing) is None
