"""Letters [14]: the SHAPES of SIGNS and of rows of them."""

from lampsaloft.errors import NoText
from lampsaloft.shapes import chain, joined, moved

LONGEST_WORD = 60
# Each DOT of a stroke by x and z, a figure each.
STROKES = {
    "A": "00-26-40 13-33",
    "B": "00-06-36-45-44-33-03 33-42-41-30-00",
    "C": "45-36-16-05-01-10-30-41",
    "D": "00-06-26-44-42-20-00",
    "E": "40-00-06-46 03-33",
    "F": "00-06-46 03-33",
    "G": "45-36-16-05-01-10-30-41-43-23",
    "H": "00-06 40-46 03-43",
    "I": "10-30 16-36 20-26",
    "J": "01-10-20-31-36",
    "K": "00-06 46-03-40",
    "L": "06-00-40",
    "M": "00-06-23-46-40",
    "N": "00-06-40-46",
    "O": "10-01-05-16-36-45-41-30-10",
    "P": "00-06-36-45-44-33-03",
    "Q": "10-01-05-16-36-45-41-30-10 22-40",
    "R": "00-06-36-45-44-33-03 23-40",
    "S": "45-36-16-05-04-13-33-42-41-30-10-01",
    "T": "06-46 20-26",
    "U": "06-01-10-30-41-46",
    "V": "06-20-46",
    "W": "06-10-23-30-46",
    "X": "00-46 06-40",
    "Y": "06-23-46 20-23",
    "Z": "06-46-00-40",
    "0": "10-01-05-16-36-45-41-30-10 01-45",
    "1": "14-26-20 10-30",
    "2": "05-16-36-45-44-00-40",
    "3": "05-16-36-45-44-33-23 33-42-41-30-10-01",
    "4": "30-36-02-42",
    "5": "46-06-03-33-42-41-30-10-01",
    "6": "45-36-16-05-01-10-30-41-42-33-03",
    "7": "06-46-20",
    "8": "13-04-05-16-36-45-44-33-13-02-01-10-30-41-42-33",
    "9": "01-10-30-41-45-36-16-05-04-13-43",
}


def strokes_of(sign):
    """The strokes of a SIGN, a tuple of tuples of DOTS."""
    strokes = []
    for text in STROKES[sign].split(" "):
        strokes.append(tuple([(int(dot[0]), int(dot[1])) for dot in text.split("-")]))
    return tuple(strokes)


def letter(sign, size, stride):
    """The SHAPE of the strokes of a SIGN, size times as great."""
    return joined([chain([(x * size, z * size) for x, z in points], stride) for points in strokes_of(sign)])


def wrong_sign(text):
    """The index of the first sign of a string that cannot stand in a word, None if there is none."""
    for index, sign in enumerate(text[:LONGEST_WORD]):
        if sign != " " and sign not in STROKES:
            return index
    return LONGEST_WORD if len(text) > LONGEST_WORD else None


def word(text, size, stride, gap):
    """The SHAPE of the SIGNS and blanks of a string, side by side."""
    index = wrong_sign(text)
    if index is not None:
        raise NoText(0, index)
    wide = 4 * size + gap
    return joined([moved(letter(sign, size, stride), at * wide, 0) for at, sign in enumerate(text) if sign != " "])
