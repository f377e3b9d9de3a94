"""A BOOK of a SHOW in which one SCENE is another one [43]: what still holds is kept."""

from lampsaloft.books import page_of, standings_of
from lampsaloft.editions import standing_behind


def _copied(page):
    """A PAGE with an EDITION of its own, as the caller may change that."""
    rows, legs, paper, edition, aparts = page
    return (rows, legs, paper, {carrier: edition[carrier] for carrier in sorted(edition)}, aparts)


def changed(show, book, index, scene):
    """(show, book, made): the SHOW with another SCENE, its BOOK, and the indexes of the PAGES that are made anew."""
    bounds, pads, charge, scenes = show
    later = (bounds, pads, charge, scenes[:index] + (scene,) + scenes[index + 1:])
    standings = standings_of(show, book)
    standing = standings[index]
    pages = [_copied(page) for page in book]
    made = []
    for at in range(index, len(pages)):
        if at == index or standing != standings[at]:
            pages[at] = page_of(later, at, standing)
            made.append(at)
        standing = standing_behind(standing, pages[at][3])
    return (later, tuple(pages), tuple(made))
