"""What the cells of sheets that are known to be sound mean, from nothing and kept up."""

from changewise.derivatives import derivative_of
from changewise.kinded import kinded
from changewise.kinds import is_known_data
from changewise.leading import back_in, kind_of_changes, led_in, less_in
from changewise.names import marked
from changewise.reckoning import Reckoner


class Sound:
    """What is known of a sound sheet: dicts of the kinds of its cells, in order, and of the Parts of its TERMs."""

    def __init__(self):
        self.kinds = {}
        self.parts = {}


def meanings_of(sound, sheet):
    """A dict of what the cells mean, reckoned from nothing."""
    means = {}
    for cell in sheet:
        if cell[0] == "input":
            means[cell[1]] = cell[3]
        else:
            part = sound.parts[cell[1]]
            means[cell[1]] = Reckoner().meaning(part, _scope(part, means))
    return means


def _scope(part, means):
    """What the names that a term names mean, and no more.

    A function keeps its scope: were it to keep all that the other cells meant then, it would keep
    the functions among these, too, with what was kept by them, edit by edit.
    """
    return {name: means[name] for name in part.names}


def shown_of(sound, means):
    """The pairs (NAME, VALUE) of all cells of data kinds, in order."""
    kinds = sound.kinds
    return tuple([(name, means[name]) for name in kinds if is_known_data(kinds[name])])


def led_sheet(sheet, edit):
    """The sheet edited."""
    changes = dict(edit)
    return tuple([_led_cell(cell, changes) for cell in sheet])


def _led_cell(cell, changes):
    if cell[1] not in changes:
        return cell
    return cell[:3] + (led_in(cell[2], cell[3], changes[cell[1]]),)


def back_of(sheet, edit):
    """The edit back of an edit."""
    changes = dict(edit)
    inputs = [cell for cell in sheet if cell[1] in changes]
    return tuple([(cell[1], back_in(cell[2], cell[3], changes[cell[1]])) for cell in inputs])


class Kept:
    """A sound sheet that is kept up by edits that are known to be such.

    seen has the names of the cells looked at in the last edit, taken is how many calls it took, and
    backs has the edits back of those that are not undone.
    """

    def __init__(self, sound, sheet):
        self.sound = sound
        self.cells = sheet
        self.means = meanings_of(sound, sheet)
        self.backs = []
        self.seen = ()
        self.taken = 0
        self._changers = Changers(sound)

    def do(self, edit):
        """Do an edit; the changes, settled, of the cells of data kinds that are changed."""
        back = back_of(self.cells, edit)
        told = self._lead(edit)
        self.backs.append(back)
        return told

    def do_back(self):
        """Do the edit back of the last edit that is not undone."""
        return self._lead(self.backs.pop())

    def _lead(self, edit):
        step = Step(self.sound, self._changers, self.means, edit)
        for cell in self.cells:
            step.take(cell[1])
        self.cells = led_sheet(self.cells, edit)
        self.means = step.now
        self.seen = tuple(step.seen)
        self.taken = step.reckoner.taken
        return step.told()


class Changers:
    """The derivatives of a sound sheet's TERMs, as Parts; each is made once, since edits ask for the same again."""

    def __init__(self, sound):
        self.sound = sound
        self.made = {}

    def changer_of(self, name, changing):
        """The derivative of a cell's TERM in names that may change."""
        if (name, changing) not in self.made:
            kinds = self.sound.kinds
            derivative = derivative_of(self.sound.parts[name], {other: kinds[other] for other in changing})
            changes = {marked(other): kind_of_changes(kinds[other]) for other in changing}
            self.made[(name, changing)] = kinded({**kinds, **changes}, derivative)
        return self.made[(name, changing)]


class Step:
    """Goes through the cells of a sheet in an edit, by what they meant ahead of it."""

    def __init__(self, sound, changers, were, edit):
        self.sound = sound
        self.changers = changers
        self.were = were
        self.edit_changes = dict(edit)
        # The changes of the names that are changed, and of no others.
        self.changes = {}
        self.now = {}
        self.seen = []
        self.reckoner = Reckoner()

    def take(self, name):
        """Find what a cell means now, all cells ahead having been taken."""
        if name not in self.sound.parts:
            self._take_input(name)
            return
        part = self.sound.parts[name]
        changing = tuple(sorted([other for other in part.names if other in self.changes]))
        if changing == ():
            self.now[name] = self.were[name]
            return
        self.seen.append(name)
        change = self._change_of(name, part, changing)
        if is_known_data(part.kind):
            self._lead(name, change)
        else:
            self.now[name] = self.reckoner.meaning(part, _scope(part, self.now))
            self.changes[name] = change

    def told(self):
        """The pairs (NAME, CHANGE) of the cells of data kinds that are changed."""
        kinds = self.sound.kinds
        names = [name for name in self.changes if is_known_data(kinds[name])]
        return tuple([(name, less_in(kinds[name], self.now[name], self.were[name])) for name in names])

    def _take_input(self, name):
        if name in self.edit_changes:
            self._lead(name, self.edit_changes[name])
        else:
            self.now[name] = self.were[name]

    def _lead(self, name, change):
        """Lead a cell of a data kind; it is changed only if it shows another value then."""
        self.now[name] = led_in(self.sound.kinds[name], self.were[name], change)
        if self.now[name] != self.were[name]:
            self.changes[name] = change

    def _change_of(self, name, part, changing):
        """The meaning of a TERM's derivative in what the names meant, and their changes."""
        scope = _scope(part, self.were)
        for other in changing:
            scope[marked(other)] = self.changes[other]
        return self.reckoner.meaning(self.changers.changer_of(name, changing), scope)
