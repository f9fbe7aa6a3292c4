"""Desks: a shape, codes with names, guards that no change may break, and what can be undone."""

from bestcodes.errors import Busy, CodeError, NotKept, NothingLeft, Unlike
from bestcodes.pairwise import Most, longer
from bestcodes.rates import rate
from bestcodes.several import as_good, needless


class Desk:
    """A shape and a row of codes with names, guards, and the changes that led here."""

    def __init__(self, shape, codes):
        if any([code.letters != shape.letters for code in codes.values()]):
            raise Unlike()
        self.shape = shape
        self.codes = by_names(codes)
        self.guards = ()
        self.undoable = 0
        self.redoable = 0
        # what stood before, what stands now, and what can be redone, as pairs of shape and codes
        self.stands = [(self.shape, self.codes)]
        self.busy = False

    def put(self, name, code):
        """Put a code under a name, in the place of one that is there."""
        if code.letters != self.shape.letters:
            raise Unlike()
        self.change(self.shape, by_names({**self.codes, name: code}))

    def drop(self, name):
        """Take away the code of a name."""
        if name not in self.codes or len(self.codes) == 1:
            raise NothingLeft()
        self.change(self.shape, {other: self.codes[other] for other in self.codes if other != name})

    def shape_to(self, shape):
        """Take another shape."""
        if shape.letters != self.shape.letters:
            raise Unlike()
        self.change(shape, self.codes)

    def keep(self, guard):
        """Put a guard behind the others; it has to hold now."""
        if not holds(guard, self.shape, self.codes):
            raise NotKept(guard)
        self.guards = (*self.guards, guard)

    def free(self, guard):
        """Take away the first guard that is equal to this one."""
        if guard not in self.guards:
            raise NothingLeft()
        at = self.guards.index(guard)
        self.guards = self.guards[:at] + self.guards[at + 1:]

    def undo(self):
        """Go back by one change."""
        if self.busy:
            raise Busy()
        if self.undoable == 0:
            raise NothingLeft()
        self.go_to(self.undoable - 1)

    def redo(self):
        """Go forth by one change that was undone."""
        if self.busy:
            raise Busy()
        if self.redoable == 0:
            raise NothingLeft()
        self.go_to(self.undoable + 1)

    def tried(self, action):
        """What an action with this desk returns; behind it the desk is as it was."""
        shape, codes, guards = self.shape, self.codes, self.guards
        undoable, redoable, busy = self.undoable, self.redoable, self.busy
        stands = list(self.stands)
        self.busy = True
        try:
            return action(self)
        finally:
            self.shape, self.codes, self.guards = shape, codes, guards
            self.undoable, self.redoable, self.busy = undoable, redoable, busy
            self.stands = stands

    def change(self, shape, codes):
        """Let a shape and codes stand, unless they break a guard."""
        self.check_guards(shape, codes)
        del self.stands[self.undoable + 1:]
        self.stands.append((shape, codes))
        self.stand_at(self.undoable + 1)

    def go_to(self, at):
        """Let stand what stood behind so many changes, unless it breaks a guard."""
        shape, codes = self.stands[at]
        self.check_guards(shape, codes)
        self.stand_at(at)

    def stand_at(self, at):
        """Let stand what stood behind so many changes."""
        self.shape, self.codes = self.stands[at]
        self.undoable = at
        self.redoable = len(self.stands) - 1 - at

    def check_guards(self, shape, codes):
        """Raise NotKept for the first guard that a shape and codes break."""
        for guard in self.guards:
            # each guard holds now, so one for which all is as it is now is not looked at again
            same = shape == self.shape and meant(guard, codes) == meant(guard, self.codes)
            if not same and not holds(guard, shape, codes):
                raise NotKept(guard)


def by_names(codes):
    """A new dict of the codes, ascending by names."""
    return {name: codes[name] for name in sorted(codes)}


def meant(guard, codes):
    """The codes that a guard is about, in its order; None for one that is missing."""
    if guard[0] == "never":
        return [codes.get(name) for name in (*guard[1], guard[2])]
    if guard[0] == "within":
        return [codes.get(guard[1]), codes.get(guard[2])]
    if guard[0] == "rate":
        return [codes.get(name) for name in guard[1]]
    return list(codes.values())


def holds(guard, shape, codes):
    """Whether a guard holds; it does not if a code is missing or a function raises an error."""
    told = meant(guard, codes)
    if any([code is None for code in told]):
        return False
    try:
        return is_true(guard, told, shape)
    except CodeError:
        return False


def is_true(guard, codes, shape):
    """Whether it is true what a guard says of the codes that it is about."""
    if guard[0] == "never":
        return as_good(codes[:-1], codes[-1], shape)
    if guard[0] == "within":
        told = longer(codes[0], codes[1], shape)
        return told is None or (isinstance(told, Most) and told.bits <= guard[3])
    if guard[0] == "rate":
        worst = rate(codes, shape)
        return worst is None or worst.bits * guard[3] <= guard[2] * worst.per
    return needless(codes, shape) == ()
