"""What the cells of sheets that are known to be sound mean, from nothing and kept up."""

from changewise.cells import named_by
from changewise.derivatives import derivative_in
from changewise.kinded import kinded
from changewise.kinds import is_data_kind
from changewise.leading import back_in, kind_of_changes, led_in, less_in
from changewise.names import marked
from changewise.reckoning import Reckoner
from changewise.shapes import free_in


def meanings_of(kinds, sheet):
    """A dict of what the cells mean, reckoned from nothing."""
    means = {}
    for cell in sheet:
        if cell[0] == "input":
            means[cell[1]] = cell[3]
        else:
            means[cell[1]] = Reckoner().meaning(kinded(kinds, cell[2]), _scope(cell[2], means))
    return means


def _scope(term, means):
    """What the names that a term names mean, and no more.

    A function keeps its scope: were it to keep all that the other cells meant then, it would keep
    the functions among these, too, with what was kept by them, edit by edit.
    """
    return {name: means[name] for name in free_in(term)}


def shown_of(kinds, means):
    """The pairs (NAME, VALUE) of all cells of data kinds, in order."""
    return tuple([(name, means[name]) for name in kinds if is_data_kind(kinds[name])])


def led_sheet(sheet, edit):
    """The sheet edited."""
    changes = dict(edit)
    return tuple([_led_cell(cell, changes) for cell in sheet])


def _led_cell(cell, changes):
    if cell[1] not in changes:
        return cell
    return cell[:3] + (led_in(cell[2], cell[3], changes[cell[1]]),)


def back_of(sheet, edit):
    """The edit back of an edit."""
    changes = dict(edit)
    inputs = [cell for cell in sheet if cell[1] in changes]
    return tuple([(cell[1], back_in(cell[2], cell[3], changes[cell[1]])) for cell in inputs])


class Kept:
    """A sound sheet that is kept up by edits that are known to be such.

    seen has the names of the cells looked at in the last edit, taken is how many calls it took, and
    backs has the edits back of those that are not undone.
    """

    def __init__(self, kinds, sheet):
        self.kinds = kinds
        self.cells = sheet
        self.means = meanings_of(kinds, sheet)
        self.backs = []
        self.seen = ()
        self.taken = 0

    def do(self, edit):
        """Do an edit; the changes, settled, of the cells of data kinds that are changed."""
        back = back_of(self.cells, edit)
        told = self._lead(edit)
        self.backs.append(back)
        return told

    def do_back(self):
        """Do the edit back of the last edit that is not undone."""
        return self._lead(self.backs.pop())

    def _lead(self, edit):
        step = Step(self.kinds, self.means, edit)
        for cell in self.cells:
            step.take(cell)
        self.cells = led_sheet(self.cells, edit)
        self.means = step.now
        self.seen = tuple(step.seen)
        self.taken = step.reckoner.taken
        return step.told()


class Step:
    """Goes through the cells of a sheet in an edit, by what they meant ahead of it."""

    def __init__(self, kinds, were, edit):
        self.kinds = kinds
        self.were = were
        self.edit_changes = dict(edit)
        # The changes of the names that are changed, and of no others.
        self.changes = {}
        self.now = {}
        self.seen = []
        self.reckoner = Reckoner()

    def take(self, cell):
        """Find what a cell means now, all cells ahead having been taken."""
        name = cell[1]
        changing = tuple([other for other in named_by(cell) if other in self.changes])
        if name in self.edit_changes:
            self._lead(name, self.edit_changes[name])
        elif changing == ():
            self.now[name] = self.were[name]
        else:
            self.seen.append(name)
            self._keep_up(name, changing, cell[2])

    def told(self):
        """The pairs (NAME, CHANGE) of the cells of data kinds that are changed."""
        names = [name for name in self.changes if is_data_kind(self.kinds[name])]
        return tuple([(name, less_in(self.kinds[name], self.now[name], self.were[name])) for name in names])

    def _keep_up(self, name, changing, term):
        change = self._change_of(changing, term)
        if is_data_kind(self.kinds[name]):
            self._lead(name, change)
        else:
            self.now[name] = self.reckoner.meaning(kinded(self.kinds, term), _scope(term, self.now))
            self.changes[name] = change

    def _lead(self, name, change):
        """Lead a cell of a data kind; it is changed only if it shows another value then."""
        self.now[name] = led_in(self.kinds[name], self.were[name], change)
        if self.now[name] != self.were[name]:
            self.changes[name] = change

    def _change_of(self, changing, term):
        """The meaning of a term's derivative in what the names meant, and their changes."""
        derivative = derivative_in(self.kinds, changing, term)
        kinds = {marked(name): kind_of_changes(self.kinds[name]) for name in changing}
        changes = {marked(name): self.changes[name] for name in changing}
        scope = {**_scope(term, self.were), **changes}
        return self.reckoner.meaning(kinded({**self.kinds, **kinds}, derivative), scope)
