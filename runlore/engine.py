"""Engines: sheets with inputs, whose cells are answered by clauses that were learned from runs."""

from runlore.asks import answer_of
from runlore.desks import Desk, bring_back, clause_again, desk_copy, drop_oldest, learn_clause, look_again
from runlore.errors import NoCell
from runlore.loretrees import clauses_below, has_clause
from runlore.places import with_part
from runlore.sheets import check_inputs


class Engine:
    """A sheet, the values of its inputs, and what was learned of its cells."""

    def __init__(self, sheet, given):
        check_inputs(sheet.inputs, given)
        self.sheet = sheet
        self.depth = 0
        self.desk = Desk({name: given[name] for name in given})
        self.log = []

    @property
    def given(self):
        """The values of the inputs that have one."""
        return {name: self.desk.held[name] for name in self.desk.held}

    def __len__(self):
        return len(self.desk.deeds)

    def __eq__(self, other):
        if not isinstance(other, Engine) or self.sheet != other.sheet or self.desk.held != other.desk.held:
            return False
        return all([clauses_of(self, cell) == clauses_of(other, cell) for cell, _ in self.sheet.cells])

    def ask(self, cell):
        """What a cell returns."""
        self.sheet.body(cell)
        return answer_of(self.sheet, self.desk, self.log, cell)

    def runs(self):
        """Pairs of a cell and a clause, None where a ring ended the run, for all runs in the order of their ends."""
        return list(self.log)

    def lore(self, cell):
        """The clauses of a cell, in the order of their tree."""
        self.sheet.body(cell)
        return clauses_of(self, cell)

    def edit(self, name, value):
        """Gives an input a value."""
        check_input(self.sheet, name)
        set_input(self.desk, name, (value,))

    def clear(self, name):
        """Takes the value of an input away."""
        check_input(self.sheet, name)
        set_input(self.desk, name, ())

    def edit_part(self, place, value):
        """Replaces the value at a place of an input."""
        name = place[0]
        check_input(self.sheet, name)
        if len(place) > 1:
            value = with_part(self.desk.held, place, value)[name]
        set_input(self.desk, name, (value,))

    def rewrite(self, cell, body):
        """Gives a cell another body."""
        set_sheet(self, self.sheet.rewritten(cell, body), [cell])

    def redefine(self, definition):
        """Puts a definition in the place of the one with its name."""
        set_sheet(self, self.sheet.redefined(definition), cells_of(self.sheet))

    def undo(self):
        """Takes the last deed back; returns whether there was one."""
        if not self.desk.deeds:
            return False
        deed = self.desk.deeds.pop()
        self.desk.answered = {}
        if deed[0] == 'input':
            put_value(self.desk, deed[1], deed[2])
        else:
            self.sheet = deed[1]
            look_again(self.desk, self.sheet, cells_of(self.sheet))
            bring_back(self.desk, deed[2])
        return True

    def forget(self):
        """Removes the clause that was not used for longest; returns its cell and it, or None."""
        return drop_oldest(self.desk)

    def take_in(self, cell, clauses):
        """Learns those clauses that the cell has and that are not there; returns how many."""
        self.sheet.body(cell)
        many = 0
        for clause in clauses:
            found = None if has_clause(self.desk.trees.get(cell), clause) else clause_again(self.sheet, cell, clause)
            if found is not None:
                learn_clause(self.desk, cell, found)
                many = many + 1
        return many

    def trial(self):
        """A block at whose end all is as it was, unless it is kept."""
        return Trial(self)

    def in_trial(self, work):
        """Does some work in a trial; returns what it returned."""
        with Trial(self) as trial:
            return work(trial)


class Trial:
    """A block of an engine, for one `with` statement."""

    def __init__(self, engine):
        self.engine = engine
        self.depth = 0
        self.sheet = None
        self.desk = None

    def keep(self):
        """What was done in the block stays."""
        # Without a desk there is nothing to bring back.
        self.desk = None

    def __enter__(self):
        engine = self.engine
        self.depth = engine.depth
        self.sheet = engine.sheet
        self.desk = desk_copy(engine.desk)
        engine.depth = engine.depth + 1
        return self

    def __exit__(self, kind, value, trace):
        # The blocks inside were left before: those around this one stay.
        self.engine.depth = self.depth
        if self.desk is None:
            return
        self.engine.sheet = self.sheet
        self.engine.desk = self.desk


def cells_of(sheet):
    """The names of the cells of a sheet."""
    return [name for name, _ in sheet.cells]


def clauses_of(engine, cell):
    return clauses_below(engine.desk.trees.get(cell))


def check_input(sheet, name):
    if name not in sheet.inputs:
        raise NoCell(name)


def put_value(desk, name, held):
    """The input has the value in the tuple, or none for an empty one."""
    if held:
        desk.held[name] = held[0]
    elif name in desk.held:
        del desk.held[name]


def set_input(desk, name, held):
    """The deed that gives an input the value in the tuple, or takes it away."""
    before = (desk.held[name],) if name in desk.held else ()
    desk.deeds.append(('input', name, before))
    put_value(desk, name, held)
    desk.answered = {}


def set_sheet(engine, sheet, cells):
    """The deed that replaces the sheet by one in which these cells may do something else."""
    desk = engine.desk
    gone = look_again(desk, sheet, cells)
    desk.deeds.append(('sheet', engine.sheet, gone))
    desk.answered = {}
    engine.sheet = sheet
