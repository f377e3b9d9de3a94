"""What tests of whole shows share: SHOWS that are LET BY or are not, NIGHTS, RUNS, and a second telling of where all are."""

from fractions import Fraction

from lampsaloft.crossless import uncrossed
from lampsaloft.forms import is_show
from lampsaloft.shows import charge_needed, hold_needed
from lampsaloft.spacing import least_ticks_for_all
from lampsaloft.verdicts import verdict
from tests.geometry import number, shown
from tests.test_pictures import some_picture


def lag_of(bounds):
    return bounds[4] + 2 * bounds[3]


def some_bounds(dice):
    """BOUNDS that are enough in flights that last long."""
    spacing, wind = dice.randint(8, 20), dice.choice((0, 1, 1, 2))
    near = dice.randint(1, spacing * 7 // 10 - 2 * wind)
    way = spacing + dice.choice((0, 10, 40, 90))
    return (spacing, near, wind, dice.randint(0, 2), dice.randint(0, 6), way, dice.randint(1, 3), dice.randint(0, 3), 12)


def some_pads(dice, bounds, many):
    """SPACED pads that are no nearer than spacing to where rows of depth may stand."""
    spacing = bounds[0]
    pads, x = [], dice.randint(-20, 20)
    for _ in range(many):
        pads.append((x, -spacing - dice.randint(0, spacing)))
        x += spacing + dice.randint(0, 4)
    dice.shuffle(pads)
    return tuple(pads)


def some_scene(dice, bounds, ticks, carriers):
    picture = some_picture(dice, dice.choice((10, 30)), dice.randint(1, carriers + 2)) if dice.random() < 0.9 else ()
    return (ticks, hold_needed(bounds) + dice.choice((0, 0, 1, 7)), picture)


def with_charge(show, more=0):
    """The show with a CHARGE that just lasts, and so many more."""
    return (show[0], show[1], (charge_needed(show) + more,) + show[2][1:], show[3])


def some_show(dice, carriers=4, scenes=3):
    """A SHOW against which there are no REASONS, but for "near" ones perhaps."""
    bounds = some_bounds(dice)
    pads = some_pads(dice, bounds, dice.randint(1, carriers))
    lag, enough = max(1, lag_of(bounds)), least_ticks_for_all(bounds)
    told = []
    for _ in range(dice.randint(1, scenes)):
        ticks = dice.choice((enough, enough, enough + 5, dice.randint(lag, max(lag, enough)), max(lag, enough // 2)))
        told.append(some_scene(dice, bounds, ticks, len(pads)))
    show = with_charge((bounds, pads, (0, dice.randint(0, 2), dice.randint(0, 3)), tuple(told)), dice.choice((0, 5)))
    assert is_show(show)
    return show


def show_with(dice, kinds, carriers=4, scenes=3):
    """A SHOW whose verdict is of one of these kinds."""
    while True:
        show = some_show(dice, carriers, scenes)
        if verdict(show)[0] in kinds:
            return show


def times_of(show):
    """The tuples (opens, leaves, arrives, ends), by the words of the document."""
    spacing, near, wind, clock, fall, way, silence, cuts, deep = show[0]
    opens, leaves, told = 0, fall + 2 * clock + clock + 2 * silence + cuts, []
    for ticks, hold, _ in show[3]:
        told.append((opens, leaves, leaves + ticks, leaves + ticks + hold))
        opens, leaves = leaves + ticks, leaves + ticks + hold
    return told


def some_part(dice, least, most):
    """A fraction from least to most, often one of these."""
    kind = dice.random()
    if kind < 0.3:
        return Fraction(dice.choice((least, most)))
    below = dice.choice((1, 2, 3, 7, 10))
    return Fraction(dice.randint(least * below, most * below), below)


def some_moment(dice, show):
    """A MOMENT of a FALL, often at one of those that count."""
    times, fall, clock = times_of(show), show[0][4], show[0][3]
    last = times[-1][3]
    marks = [0, last]
    for opens, leaves, arrives, ends in times:
        marks += [opens, leaves, arrives, ends, leaves - fall - clock, leaves - clock, leaves + clock, arrives + clock,
                  leaves - lag_of(show[0]) - clock - show[0][6] - show[0][7], leaves - fall]
    moment = Fraction(dice.choice(marks)) if dice.random() < 0.5 else some_part(dice, 0, last)
    if dice.random() < 0.2:
        moment += dice.choice((Fraction(1, 2), Fraction(-1, 3), 1, -1))
    return min(max(moment, Fraction(0)), Fraction(last))


def some_wind(dice, wind):
    kind = dice.randint(0, 3)
    if kind == 0:
        x, y = dice.choice(((0, 0), (wind, 0), (0, -wind), (-wind, 0)))
        return ((x, 1), (y, 1))
    if kind == 1:
        x, y = dice.choice(((3, 4), (-4, 3), (3, -4), (-3, -4)))
        return (shown(Fraction(x * wind, 5)), shown(Fraction(y * wind, 5)))
    while True:
        x, y = some_part(dice, -wind, wind), some_part(dice, -wind, wind)
        if x * x + y * y <= wind * wind:
            return (shown(x), shown(y))


def some_night(dice, show):
    bounds, pads, _, scenes = show
    carriers = range(len(pads))
    likely = dice.choice((0, 0.2, 0.5, 0.9))
    falls = {carrier: shown(some_moment(dice, show)) for carrier in carriers if dice.random() < likely}
    lost = {carrier: dice.randrange(len(scenes)) for carrier in carriers if dice.random() < likely / 2}
    errs = {carrier: tuple([shown(some_part(dice, -bounds[3], bounds[3])) for _ in scenes]) for carrier in carriers}
    winds = {carrier: tuple([some_wind(dice, bounds[2]) for _ in range(len(scenes) + 1)]) for carrier in carriers}
    return (falls, errs, winds, lost)


def fall_told(show, night, carrier):
    """The FALL of a carrier as a Fraction, None if it has none."""
    falls, errs, _, lost = night
    told = []
    if carrier in falls:
        told.append(number(falls[carrier]))
    if carrier in lost:
        told.append(times_of(show)[lost[carrier]][1] + number(errs[carrier][lost[carrier]]) - lag_of(show[0]))
    return min(told, default=None)


def seats_told(show, scene):
    """The SEATS of a scene, in the order of the PICTURE, by trying each row."""
    spacing, seats = show[0][0], []
    for x, _, _, _ in show[3][scene][2]:
        row = 0
        while any(y == row * spacing and abs(other - x) < spacing for other, y in seats):
            row += 1
        seats.append((x, row * spacing))
    return seats


def goals_told(show, scene, many):
    seats = seats_told(show, scene)
    lamps = show[3][scene][2]
    order = sorted(range(len(lamps)), key=lambda at: -lamps[at][3])
    return [seats[at] for at in order[:many]]


def some_edition(dice, show, scene, standing):
    """A RIGHT EDITION: CROSSLESS LEGS to GOALS that were dealt out, or the STAY."""
    carriers = sorted(standing)
    stay = {carrier: (standing[carrier], standing[carrier]) for carrier in carriers}
    goals = goals_told(show, scene, len(carriers))
    tos = goals + dice.sample(list(show[1]), len(carriers) - len(goals))
    dice.shuffle(tos)
    legs = uncrossed(tuple([(standing[carrier], to) for carrier, to in zip(carriers, tos)]))
    too_far = any((a - c) ** 2 + (b - d) ** 2 > show[0][5] ** 2 for (a, b), (c, d) in legs)
    if too_far or dice.random() < 0.15:
        return stay
    found = list(zip(carriers, legs))
    dice.shuffle(found)
    return dict(found)


def some_lot(dice, show, scene, night, there):
    """Who may fly to a scene of those that are there: all that have to, and some that may be left out."""
    opens, leaves, _, _ = times_of(show)[scene]
    last = leaves - show[0][4] - show[0][3]
    lot = []
    for carrier in there:
        fall = fall_told(show, night, carrier)
        if fall is None or fall > last or (fall > opens and dice.random() < 0.5):
            lot.append(carrier)
    return lot


def some_run(dice, show, night):
    """A RUN of a NIGHT, EDITIONS with keys in any order."""
    standing, editions = dict(enumerate(show[1])), []
    for scene in range(len(show[3])):
        lot = some_lot(dice, show, scene, night, standing)
        edition = some_edition(dice, show, scene, {carrier: standing[carrier] for carrier in lot})
        editions.append(edition)
        standing = {carrier: edition[carrier][1] for carrier in edition}
    return tuple(editions)


def place_told(show, night, editions, carrier, moment, later=True):
    """Where a carrier is, as Fractions, None if it is not there; with later winds or earlier ones where they turn."""
    times, fall = times_of(show), fall_told(show, night, carrier)
    if moment < 0 or moment > times[-1][3] or (fall is not None and moment > fall + show[0][4]):
        return None
    stopped = moment if fall is None else min(moment, fall)
    x, y = show[1][carrier]
    for at, edition in enumerate(editions):
        begin = times[at][1] + number(night[1][carrier][at])
        if carrier in edition and stopped > begin:
            (a, b), (c, d) = edition[carrier]
            part = min((stopped - begin) / show[3][at][0], 1)
            x, y = a + (c - a) * part, b + (d - b) * part
    turned = [leaves for _, leaves, _, _ in times if leaves < moment or (later and leaves == moment)]
    wind = night[2][carrier][len(turned)]
    return (x + number(wind[0]), y + number(wind[1]))


def breaks_told(show, night):
    """The breaks as Fractions."""
    times = times_of(show)
    last = times[-1][3]
    told = {Fraction(0), Fraction(last)}
    for at, (_, leaves, arrives, _) in enumerate(times):
        told.add(Fraction(leaves))
        for carrier in range(len(show[1])):
            err = number(night[1][carrier][at])
            told.update((leaves + err, arrives + err))
    for carrier in range(len(show[1])):
        fall = fall_told(show, night, carrier)
        if fall is not None:
            told.update((fall, fall + show[0][4]))
    return sorted([moment for moment in told if 0 <= moment <= last])


def ends_told(show, night, carrier):
    """The last moment at which a carrier is there."""
    last, fall = times_of(show)[-1][3], fall_told(show, night, carrier)
    return Fraction(last) if fall is None else min(Fraction(last), fall + show[0][4])


def square_between(one, other):
    return (one[0] - other[0]) ** 2 + (one[1] - other[1]) ** 2


def all_nearest(show, night, editions):
    """For each couple and each two breaks (least squared distance, moment, i, j) in between, ends with their own winds."""
    breaks = breaks_told(show, night)
    for i in range(len(show[1])):
        for j in range(i + 1, len(show[1])):
            end = min(ends_told(show, night, i), ends_told(show, night, j))
            places = [place_told(show, night, editions, one, Fraction(0)) for one in (i, j)]
            yield (square_between(*places), Fraction(0), i, j)
            for begin, later in zip(breaks, breaks[1:]):
                if later <= end:
                    here = [place_told(show, night, editions, one, begin) for one in (i, j)]
                    there = [place_told(show, night, editions, one, later, False) for one in (i, j)]
                    yield nearest_on_way(here, there, begin, later) + (i, j)


def nearest_on_way(here, there, begin, later):
    """(squared distance, moment) of two that go evenly: a square in one number, least at its middle or at an end."""
    parts = [Fraction(0), Fraction(1)]
    gap = [other - one for one, other in zip(*here)]
    pace = [(there[1][k] - there[0][k]) - gap[k] for k in (0, 1)]
    square = pace[0] ** 2 + pace[1] ** 2
    if square:
        middle = -(gap[0] * pace[0] + gap[1] * pace[1]) / square
        if 0 < middle < 1:
            parts.append(middle)
    worths = [((gap[0] + part * pace[0]) ** 2 + (gap[1] + part * pace[1]) ** 2, begin + part * (later - begin))
              for part in parts]
    return min(worths)


def nearest_told(show, night, editions):
    """nearest_ever, with Fractions."""
    return min(all_nearest(show, night, editions), default=None)
