"""What the house keeps [34]: a DISK of cells, and the WRITES of a tick, of which a cut may leave out the last ones."""

from lampsaloft.editions import edition_for, standing_at_first
from lampsaloft.shows import timeline, writing_tick


def window_at(show, now):
    """The scene in whose WINDOW a tick lies, None if it lies in none."""
    for scene, (opens, leaves, _, _) in enumerate(timeline(show)):
        if opens <= now < leaves:
            return scene
    return None


def written(disk, writes):
    """The DISK that comes of WRITES, one behind the other."""
    cells = {address: disk[address] for address in disk}
    for write in writes:
        if write[0] == "put":
            cells[write[1]] = write[2]
        elif write[1] in cells:
            del cells[write[1]]
    return {address: cells[address] for address in sorted(cells)}


def _carriers_on(disk, word, scene):
    """The ascending list of the carriers for which a DISK has an ADDRESS that begins so."""
    return sorted([address[2] for address in disk if address[:2] == (word, scene)])


def heard_on(disk, scene):
    """The ascending tuple of the carriers that were heard in the WINDOW of a scene."""
    return tuple(_carriers_on(disk, "heard", scene))


def edition_on(disk, scene):
    """The EDITION whose LEGS lie on a DISK, None if its mark does not."""
    if ("edition", scene) not in disk:
        return None
    return {carrier: disk[("leg", scene, carrier)] for carrier in _carriers_on(disk, "leg", scene)}


def standing_on(show, disk, scene):
    """The STANDING in the WINDOW of a scene, {} if the scene ahead has no EDITION."""
    if scene == 0:
        return standing_at_first(show)
    edition = edition_on(disk, scene - 1)
    if edition is None:
        return {}
    return {carrier: there for carrier, (_, there) in edition.items()}


def _edition_writes(show, scene, standing):
    """The WRITES of the EDITION for a STANDING: the mark is behind all LEGS, so that none lacks where it is."""
    edition = edition_for(show, scene, standing)
    puts = [("put", ("leg", scene, carrier), leg) for carrier, leg in edition.items()]
    return puts + [("put", ("edition", scene), len(edition))]


def _writes_in(show, disk, scene, now, reports):
    """The list of the WRITES of a tick in the WINDOW of a scene whose EDITION has no mark yet."""
    writes = [("take", ("leg", scene, carrier)) for carrier in _carriers_on(disk, "leg", scene)]
    standing = standing_on(show, disk, scene)
    heard = heard_on(disk, scene)
    fresh = [carrier for carrier in reports if carrier in standing and carrier not in heard]
    writes.extend([("put", ("heard", scene, carrier), now) for carrier in fresh])
    listened = disk.get(("listened", scene), 0) + 1
    if listened >= show[0][6] and now >= writing_tick(show, scene):
        there = {carrier: standing[carrier] for carrier in standing if carrier in heard or carrier in fresh}
        writes.extend(_edition_writes(show, scene, there))
    writes.append(("put", ("listened", scene), listened))
    return writes


def writes_of_tick(show, disk, now, reports):
    """The tuple of the WRITES that the house does in a tick in which these reports come."""
    scene = window_at(show, now)
    if scene is None or ("edition", scene) in disk:
        return ()
    return tuple(_writes_in(show, disk, scene, now, reports))


def letters_on(show, disk, now):
    """The list of the LETTERS (scene, carrier, leg) that are sent at the end of a tick."""
    scene = window_at(show, now)
    edition = None if scene is None else edition_on(disk, scene)
    return [] if edition is None else [(scene, carrier, leg) for carrier, leg in edition.items()]
