"""Views: a grain and picks of a book, gone down into values and up again."""

from cubebook.errors import NoGrain, NoValue
from cubebook.grains import coarsest, ladder_on
from cubebook.ladders import is_value_at, whole_of


def with_level(grain, axis, level):
    return grain[:axis] + (level,) + grain[axis + 1:]


class View:
    # Each step is a tuple of the grain and the picks behind it, so going back is to drop the last one.
    def __init__(self, book):
        self.book = book
        self.steps = [(coarsest(book.ladders()), ())]

    def grain(self):
        return self.steps[-1][0]

    def picks(self):
        return list(self.steps[-1][1])

    def cells(self):
        return self.book.answer(self.grain(), [(axis, level, [value]) for axis, level, value in self.picks()])

    def drill(self, axis, value):
        ladder = ladder_on(self.book.ladders(), axis)
        level = self.grain()[axis]
        if level == 0:
            raise NoGrain("there is no finer level")
        if not is_value_at(ladder, level, value):
            raise NoValue("no such value at the level")
        picks = self.steps[-1][1] + ((axis, level, value),)
        self.steps.append((with_level(self.grain(), axis, level - 1), picks))

    def roll(self, axis):
        ladder = ladder_on(self.book.ladders(), axis)
        level = self.grain()[axis]
        if level == whole_of(ladder):
            raise NoGrain("there is no coarser level")
        self.steps.append((with_level(self.grain(), axis, level + 1), self.steps[-1][1]))

    def back(self):
        if len(self.steps) == 1:
            raise NoGrain("there is nothing to undo")
        self.steps.pop()
