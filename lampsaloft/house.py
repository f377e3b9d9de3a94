"""The ground house [35]: tick by tick it hears reports, writes EDITIONS and sends LETTERS, unless power fails."""

from lampsaloft.cells import edition_on, letters_on, writes_of_tick, written
from lampsaloft.errors import Wrong
from lampsaloft.forms import is_show


class House:
    """A house for a SHOW: what is on its DISK is all that it knows from one tick to the next."""

    def __init__(self, show):
        if not is_show(show):
            raise Wrong(0)
        self.wanted = show
        self.cells = {}
        self.tick = 0

    def write(self, writes):
        """Does WRITES."""
        if len(writes) > 0:
            self.cells = written(self.cells, writes)

    def up(self, reports):
        """A tick at which the house is up; returns the LETTERS that are sent."""
        self.write(writes_of_tick(self.wanted, self.cells, self.tick, reports))
        letters = letters_on(self.wanted, self.cells, self.tick)
        self.tick += 1
        return letters

    def cut(self, reports, many):
        """A tick in which power fails behind so many WRITES."""
        self.write(writes_of_tick(self.wanted, self.cells, self.tick, reports)[:many])
        self.tick += 1

    def down(self, many):
        """So many ticks without power."""
        self.tick += many

    def now(self):
        """The tick that is next."""
        return self.tick

    def disk(self):
        """The DISK."""
        return {address: self.cells[address] for address in self.cells}

    def show(self):
        """The SHOW."""
        return self.wanted

    def edition(self, scene):
        """The EDITION that is kept for a scene, None if there is none."""
        return edition_on(self.cells, scene)

    def twin(self):
        """An independent House in the same state."""
        other = House(self.wanted)
        other.cells = self.disk()
        other.tick = self.tick
        return other
