"""A board: the present jobs on the levels of a rule, and what a unit does to them."""


class Board:
    """The levels with their jobs, front first, and the finishes so far."""

    def __init__(self, rule, processors):
        self.rule = rule
        self.processors = processors
        self.now = 0
        self.lines = [[] for _ in rule[0]]
        # Only a present job has a used number; one that has finished keeps what it ran.
        self.used = {}
        self.ran = {}
        # A triple (unit, running, finishing) for each unit with a finish.
        self.finishes = []

    def copied(self):
        """Return a board of its own that is like this one."""
        twin = Board(self.rule, self.processors)
        twin.now = self.now
        twin.lines = [list(line) for line in self.lines]
        twin.used = dict(self.used)
        twin.ran = dict(self.ran)
        twin.finishes = list(self.finishes)
        return twin

    def enter(self, name, entry):
        """Let a job enter at the current moment."""
        level = min(entry, len(self.lines) - 1)
        line = self.lines[level]
        if self.rule[0][level][0] == "stack":
            line.insert(0, name)
        else:
            line.append(name)
        self.used[name] = 0
        self.ran[name] = 0

    def order(self):
        """Return the names of all present jobs, in order."""
        return [name for line in self.lines for name in line]

    def running(self):
        """Return the names of the jobs that run in the next unit, in order."""
        return tuple(self.order()[:self.processors])

    def level_of(self, name):
        """Return the level of a present job."""
        return [name in line for line in self.lines].index(True)

    def many_finished(self):
        """Return how many jobs have finished."""
        return len(self.ran) - len(self.used)

    def ends(self):
        """Return in how many units the quanta of the running jobs, and the time up to a boost, end."""
        levels, boost = self.rule
        running = self.running()
        # Without jobs a boost changes nothing, so that an idle stretch is passed in one go.
        boosts = [boost - self.now % boost] if running and boost is not None else []
        quanta = [(levels[self.level_of(name)][1], name) for name in running]
        return boosts + [quantum - self.used[name] for quantum, name in quanta if quantum is not None]

    def end_units(self, units, finishing):
        """Run so many units with the same running jobs; these jobs finish at the end."""
        running = self.running()
        self.now += units
        for name in running:
            self.ran[name] += units
            self.used[name] += units
        leaving = tuple([name for name in running if name in finishing])
        if leaving:
            self.finishes.append((self.now, running, leaving))
        for name in leaving:
            self.lines[self.level_of(name)].remove(name)
            del self.used[name]
        self.end_quanta([name for name in running if name not in leaving])
        boost = self.rule[1]
        if boost is not None and self.now % boost == 0:
            self.lift()

    def end_quanta(self, names):
        """Move those of these jobs down, in their order, that have used up their quantum."""
        for name in names:
            level = self.level_of(name)
            if self.used[name] == self.rule[0][level][1]:
                self.lines[level].remove(name)
                self.lines[min(level + 1, len(self.lines) - 1)].append(name)
                self.used[name] = 0

    def lift(self):
        """Move all jobs to level 0, in order."""
        self.lines = [self.order()] + [[] for _ in self.rule[0][1:]]
        self.used = {name: 0 for name in self.used}

    def log(self):
        """Return the log so far."""
        return tuple([(unit, len(leaving)) for unit, _, leaving in self.finishes])

    def lengths(self):
        """Return a dictionary from the finished jobs to their lengths, in the order of the finishes."""
        return {name: self.ran[name] for _, _, leaving in self.finishes for name in leaving}
