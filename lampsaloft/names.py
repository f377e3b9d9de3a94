"""SHADES [13]: what a lamp shows, tick by tick."""

from lampsaloft.errors import NoText, Wrong
from lampsaloft.forms import are_names, is_name


def are_shades(thing):
    """Whether any value is SHADES."""
    return are_names(thing)


def shades_text(shades):
    """The NAMES with / between them."""
    return "/".join(shades)


def shades_read(text):
    """The SHADES with this text [R]."""
    if not isinstance(text, str):
        raise Wrong(0)
    names = text.split("/")
    for index, name in enumerate(names):
        if not is_name(name):
            raise NoText(0, index)
    return tuple(names)


def shade_at(shades, tick):
    """The shade in a tick of a hold."""
    return shades[tick % len(shades)]


def cycle_of(shades):
    """The shortest SHADES that have the same shade at each tick."""
    many = len(shades)
    for length in range(1, many):
        # Two lengths after which all comes again have a common divisor that does so too: no others need a look.
        if many % length == 0 and shades[:length] * (many // length) == shades:
            return shades[:length]
    return shades
