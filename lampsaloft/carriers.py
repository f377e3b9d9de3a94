"""What a CARRIER knows [36]: (number, column, scene, row)."""


def carrier_at_first(show, number):
    """A CARRIER on its pad."""
    return (number, show[1][number], 0, None)


def told(carrier, letter):
    """A CARRIER behind a LETTER: it takes the first row that is its own, and no other one."""
    number, column, scene, row = carrier
    if row is None and letter[0] == scene and letter[1] == number and letter[2][0] == column:
        return (number, column, scene, letter[2])
    return carrier


def told_all(carrier, letters):
    """A CARRIER behind all LETTERS of a list or tuple."""
    for letter in letters:
        carrier = told(carrier, letter)
    return carrier


def left(carrier):
    """A CARRIER behind its flight, None if it has no row."""
    number, _, scene, row = carrier
    return None if row is None else (number, row[1], scene + 1, None)
