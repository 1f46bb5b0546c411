"""An engine as [46] to [50] tell it, written plainly: with recursion, and with runs that begin again."""

import copy

from runlore.errors import NoCell, NoNote
from runlore.lore import Lore
from runlore.places import with_part
from runlore.values import Fault
from runlore.watcher import walked, watched


class Ring(Exception):
    def __init__(self, cells):
        self.cells = cells


class Model:
    def __init__(self, sheet, given):
        self.sheet, self.given = sheet, dict(given)
        self.cells = [name for name, _ in sheet.cells]
        self.lores = {name: Lore() for name in self.cells}
        self.answers, self.uses, self.deeds, self.log = {}, [], [], []

    def used(self, cell, clause):
        key = (cell, clause.notes)
        if key in self.uses:
            self.uses.remove(key)
        self.uses.append(key)

    def ask(self, cell):
        return self.value(cell, [])

    def value(self, name, waiting):
        if name in self.sheet.inputs:
            return self.given.get(name, Fault('read'))
        if name in self.answers:
            return self.answers[name]
        if name in waiting:
            raise Ring(waiting[waiting.index(name):])
        state = {'running': len(self.lores[name]) == 0}
        try:
            clause, inputs = self.clause(name, waiting + [name], state)
        except Ring as e:
            if state['running']:
                self.log.append((name, None))
            for cell in e.cells:
                self.answers[cell] = Fault('knot', cell)
            if e.cells[0] != name:
                raise
            return self.answers[name]
        self.used(name, clause)
        self.answers[name] = clause(inputs)
        return self.answers[name]

    def clause(self, cell, waiting, state):
        """The clause that answers a cell, found by a walk or a run, and what they read."""
        inputs = {}
        if not state['running']:
            notes, clause = self.asking(lambda: self.lores[cell].walk(inputs), inputs, waiting)
            if clause is not None:
                return clause, inputs
        state['running'] = True
        clause = self.asking(lambda: watched(self.sheet, cell, inputs), inputs, waiting)
        self.lores[cell].learn(clause)
        self.log.append((cell, clause))
        return clause, inputs

    def asking(self, work, inputs, waiting):
        """Does the work again and again, until it has read nothing that was not asked before."""
        while True:
            try:
                return work()
            except NoCell as e:
                inputs[e.name] = self.value(e.name, waiting)

    def change(self, given):
        self.deeds.append(('given', self.given))
        self.given, self.answers = given, {}

    def edit(self, name, value):
        self.change({**self.given, name: value})

    def clear(self, name):
        self.change({other: value for other, value in self.given.items() if other != name})

    def edit_part(self, place, value):
        self.change(with_part({**{place[0]: 0}, **self.given} if len(place) == 1 else self.given, place, value))

    def rewrite(self, cell, body):
        self.resheet(self.sheet.rewritten(cell, body), [cell])

    def redefine(self, definition):
        self.resheet(self.sheet.redefined(definition), self.cells)

    def resheet(self, sheet, cells):
        gone = self.look(sheet, cells)
        self.deeds.append(('sheet', self.sheet, gone))
        self.sheet, self.answers = sheet, {}

    def look(self, sheet, cells):
        gone = []
        for cell in cells:
            kept = []
            for clause in self.lores[cell].clauses():
                found = self.again(sheet, cell, clause)
                if found is None:
                    gone.append((cell, clause))
                    self.uses.remove((cell, clause.notes))
                else:
                    kept.append(found)
            self.lores[cell] = Lore(kept)
        return gone

    def again(self, sheet, cell, clause):
        try:
            found = walked(sheet, cell, clause.notes)
        except NoNote:
            return None
        return found if found == clause else None

    def undo(self):
        if not self.deeds:
            return False
        deed, self.answers = self.deeds.pop(), {}
        if deed[0] == 'given':
            self.given = deed[1]
        else:
            self.sheet = deed[1]
            self.look(self.sheet, self.cells)
            for cell, clause in deed[2]:
                assert self.lores[cell].learn(clause)
                self.used(cell, clause)
        return True

    def forget(self):
        if not self.uses:
            return None
        cell, notes = self.uses.pop(0)
        clause = [one for one in self.lores[cell].clauses() if one.notes == notes][0]
        self.lores[cell].forget(clause)
        return cell, clause

    def take_in(self, cell, clauses):
        many = 0
        for clause in clauses:
            found = self.again(self.sheet, cell, clause)
            if clause not in self.lores[cell] and found is not None:
                self.lores[cell].learn(found)
                self.used(cell, found)
                many += 1
        return many

    def saved(self):
        lores = {cell: Lore(lore.clauses()) for cell, lore in self.lores.items()}
        return self.sheet, dict(self.given), dict(self.answers), lores, list(self.uses), list(self.deeds)

    def load(self, saved):
        sheet, given, answers, lores, uses, deeds = copy.copy(saved)
        self.sheet, self.given, self.answers, self.lores, self.uses, self.deeds = sheet, given, answers, lores, uses, deeds
