"""A watch over a world, which is told ends, one by one, and takes them back."""

from benchends.could import could, moments
from benchends.errors import Never, NoStep, NoWork
from benchends.worlds import check_world, how_many_works, is_whole_within, running


class Watch:
    def __init__(self, world):
        check_world(world)
        self.world = world
        self.ended = ()

    def order(self):
        return self.ended

    def runs(self):
        return running(self.world, self.ended)

    def may_end(self):
        return [work for work in self.runs() if could(self.world, self.ended + (work,))]

    def end(self, work):
        # The kind is asked first: True and False are equal to works, but are none.
        if not is_whole_within(work, 0, how_many_works(self.world) - 1) or work not in self.runs():
            raise NoWork("the work does not run")
        longer = self.ended + (work,)
        if not could(self.world, longer):
            raise Never("the work can not end next")
        self.ended = longer
        return moments(self.world, longer)[-1]

    def undo(self):
        if len(self.ended) == 0:
            raise NoStep("there is no end to take back")
        work = self.ended[-1]
        self.ended = self.ended[:-1]
        return work
