"""A store as the document tells it, day by day and in fractions, to be held against the program's."""

import math
from fractions import Fraction

FATES = {"part": "parted", "merge": "merged", "lose": "lost", "draw": "drawn", "send": "sent", "pay": "paid"}


class Refused(Exception):
    """A deed is refused: the name of the error, and what its field is."""

    def __init__(self, error, field=None):
        Exception.__init__(self, error)
        self.told = (error, field)


class Model:
    """Casks are [since, {ware: Fraction}] by mark, notes (ware, grains, born) by name."""

    def __init__(self, drying, day):
        self.drying = {ware: 1 - Fraction(top, bottom) for ware, top, bottom in drying}
        self.day = day
        self.casks, self.notes, self.marks, self.fates = {}, {}, [], {}

    def do(self, day, word, *handed):
        """The deed done, on a copy first: what is told."""
        if day < self.day:
            raise Refused("TooLate", self.day)
        trial = Model((), self.day)
        trial.drying = self.drying
        trial.casks = {mark: [since, dict(parts)] for mark, (since, parts) in self.casks.items()}
        trial.notes, trial.marks, trial.fates = dict(self.notes), list(self.marks), dict(self.fates)
        trial.tick(day)
        told = getattr(trial, "do_" + word)(*handed)
        vars(self).update(vars(trial))
        return told

    def tick(self, day):
        while self.day < day:
            self.day += 1
            if self.day % 30 == 0:
                for _, parts in self.casks.values():
                    for ware in parts:
                        parts[ware] *= self.drying.get(ware, 1)

    def stock(self, ware):
        return sum([parts.get(ware, 0) for _, parts in self.casks.values()], Fraction(0))

    def aged(self, ware=None):
        names = [name for name, note in self.notes.items() if ware in (None, note[0])]
        return sorted(names, key=lambda name: (self.notes[name][2], name))

    def grains(self, names):
        return sum([self.notes[name][1] for name in names])

    def excess(self):
        over = []
        for name in self.aged():
            ware = self.notes[name][0]
            elder = self.aged(ware)[:self.aged(ware).index(name) + 1]
            if self.grains(elder) > self.stock(ware):
                over.append(name)
        return over[::-1]

    def need_cask(self, mark):
        if mark not in self.casks:
            raise Refused("NoMark", mark)

    def need_note(self, name):
        if name not in self.notes:
            raise Refused("LostNote" if self.fates.get(name) == "lost" else "NoNote", name)

    def need_new(self, name):
        if not (isinstance(name, str) and 1 <= len(name) <= 8 and set(name) <= set("abcdefghijklmnopqrstuvwxyz")):
            raise Refused("NoName")
        if name in self.fates:
            raise Refused("Twice", name)

    def need_room(self, many=1):
        if len(self.fates) + many > 24:
            raise Refused("Full")

    def need_one_ware(self, names):
        if len({self.notes[name][0] for name in names}) > 1:
            raise Refused("NoSum")

    def put(self, name, *note):
        self.notes[name] = note
        self.fates[name] = "stands"

    def take(self, names, word):
        for name in names:
            del self.notes[name]
            self.fates[name] = FATES[word]

    def do_cask(self, mark, parts):
        if mark in self.marks:
            raise Refused("Twice", mark)
        if len(self.casks) == 12:
            raise Refused("Full")
        self.marks.append(mark)
        self.casks[mark] = [self.day, dict(parts)]

    def do_weigh(self, mark, parts):
        self.need_cask(mark)
        self.casks[mark][1] = dict(parts)

    def do_burn(self, mark, ware, weight):
        self.need_cask(mark)
        parts = self.casks[mark][1]
        if ware not in parts:
            raise Refused("NoWare", ware)
        self.lower(parts, ware, weight)

    def lower(self, parts, ware, weight):
        if parts[ware] < weight:
            raise Refused("Short", weight - parts[ware])
        parts[ware] -= weight
        if parts[ware] == 0:
            del parts[ware]

    def do_make(self, name, ware, grains):
        self.need_new(name)
        self.need_room()
        lacks = self.grains(self.aged(ware)) + grains - self.stock(ware)
        if lacks > 0:
            raise Refused("NotBorne", lacks)
        self.put(name, ware, grains, self.day)

    def do_part(self, name, pieces):
        self.need_note(name)
        ware, grains, born = self.notes[name]
        seen = []
        for piece, _ in pieces:
            self.need_new(piece)
            if piece in seen:
                raise Refused("Twice", piece)
            seen.append(piece)
        if sum([many for _, many in pieces]) != grains:
            raise Refused("NoSum")
        self.need_room(len(pieces))
        self.take([name], "part")
        for piece, many in pieces:
            self.put(piece, ware, many, born)

    def joined(self, names):
        return self.notes[names[0]][0], self.grains(names), max([self.notes[name][2] for name in names])

    def do_merge(self, names, fresh):
        for name in names:
            self.need_note(name)
        self.need_one_ware(names)
        self.need_new(fresh)
        self.need_room()
        note = self.joined(names)
        self.take(names, "merge")
        self.put(fresh, *note)

    def do_lose(self, name, fresh):
        self.need_note(name)
        self.need_new(fresh)
        self.need_room()
        note = self.notes[name]
        self.take([name], "lose")
        self.put(fresh, *note)

    def do_draw(self, name):
        self.need_note(name)
        ware, grains, _ = self.notes[name]
        if self.stock(ware) < grains:
            raise Refused("Short", grains - self.stock(ware))
        told, left = [], Fraction(grains)
        for mark in sorted(self.casks, key=lambda mark: (self.casks[mark][0], int(mark[1:], 16))):
            taken = min(left, self.casks[mark][1].get(ware, Fraction(0)))
            if taken:
                told.append((mark, taken))
                self.lower(self.casks[mark][1], ware, taken)
                left -= taken
        self.take([name], "draw")
        return tuple(told)

    def do_send(self, mark, first=None):
        self.need_cask(mark)
        if first is not None:
            self.need_note(first)
        told = []
        for ware, weight in sorted(self.casks[mark][1].items()):
            left = math.ceil(weight)
            names = sorted(self.aged(ware), key=lambda name: name != first)
            if self.grains(names) < left:
                raise Refused("NotBorne", Fraction(left - self.grains(names)))
            for name in names:
                _, grains, born = self.notes[name]
                fallen = min(grains, left)
                left -= fallen
                if fallen:
                    told.append((name, fallen))
                if fallen == grains:
                    self.take([name], "send")
                else:
                    self.notes[name] = (ware, grains - fallen, born)
        del self.casks[mark]
        return tuple(told)

    def do_pay(self, names, due, change=None):
        for name in names:
            self.need_note(name)
        self.need_one_ware(names)
        ware, grains, born = self.joined(names)
        if grains < due:
            raise Refused("NoSum")
        if grains == due:
            self.take(names, "pay")
            return None
        self.need_new(change)
        self.need_room()
        self.take(names, "pay")
        self.put(change, ware, grains - due, born)
        return (change, ware, grains - due, born)

    def do_fire(self, marks):
        for mark in marks:
            self.need_cask(mark)
        told = []
        for ware in sorted({ware for mark in marks for ware in self.casks[mark][1]}):
            loss = sum([self.casks[mark][1].get(ware, 0) for mark in marks])
            names = self.aged(ware)
            whole = max(self.stock(ware), Fraction(self.grains(names)))
            shares = [(name, loss * self.notes[name][1] / whole) for name in names]
            shares.append((None, loss * (whole - self.grains(names)) / whole))
            told.append((ware, tuple([share for share in shares if share[1]])))
        for mark in marks:
            del self.casks[mark]
        return tuple(told)
