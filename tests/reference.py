"""A slow second program for the tests: the points of the document, unit by unit, in other words."""

from itertools import combinations, product
from random import Random

FIRST_COME = ((("queue", None),), None)
LAST_COME = ((("stack", None),), None)
ROUND_ROBIN = ((("queue", 1),), None)
# Rules of one and of several levels, with and without quanta and boosts.
RULES = (
    FIRST_COME,
    LAST_COME,
    ROUND_ROBIN,
    ((("stack", 1),), None),
    ((("queue", 2),), 3),
    ((("stack", 3), ("queue", None)), None),
    ((("queue", 1), ("queue", 2), ("queue", None)), None),
    ((("stack", 2), ("stack", 1)), 1),
    ((("queue", 1), ("stack", None), ("queue", 3)), 4),
    ((("queue", 10 ** 30), ("stack", 1)), 10 ** 30),
    ((("queue", 1), ("queue", 1), ("stack", 2), ("stack", 1), ("queue", 2), ("stack", 3)), 5),
)


class Row:
    """All present jobs in one list, in their order, each a dictionary."""

    def __init__(self, rule, processors):
        self.levels, self.boost = rule
        self.processors = processors
        self.rows = []

    def first_behind(self, level):
        """The place behind all jobs up to this level."""
        return len([job for job in self.rows if job["level"] <= level])

    def enter(self, name, entry):
        level = entry if entry < len(self.levels) else len(self.levels) - 1
        place = self.first_behind(level if self.levels[level][0] == "queue" else level - 1)
        self.rows.insert(place, {"name": name, "level": level, "used": 0, "ran": 0})

    def running(self):
        return tuple(job["name"] for job in self.rows[:self.processors])

    def one_unit(self, moment, finishing):
        """One unit that ends at this moment; returns how long the finishing jobs have run."""
        runners = self.rows[:self.processors]
        lengths = {}
        for job in runners:
            job["ran"] += 1
            job["used"] += 1
            if job["name"] in finishing:
                lengths[job["name"]] = job["ran"]
        self.rows = [job for job in self.rows if job["name"] not in lengths]
        for job in [job for job in runners if job["name"] not in lengths]:
            if job["used"] == self.levels[job["level"]][1]:
                self.rows.remove(job)
                if job["level"] + 1 < len(self.levels):
                    job["level"] += 1
                job["used"] = 0
                self.rows.insert(self.first_behind(job["level"]), job)
        if self.boost and moment % self.boost == 0:
            for job in self.rows:
                job["level"] = job["used"] = 0
        return lengths


class Play:
    """Given jobs in such a row; `units` are pairs (running, finishing)."""

    def __init__(self, jobs, rule, processors):
        self.row = Row(rule, processors)
        self.coming = list(jobs)
        self.units = []
        self.lengths = {}
        self.let_in()

    def let_in(self):
        for job in list(self.coming):
            kind, number = job[1]
            if number <= (len(self.units) if kind == "at" else len(self.lengths)):
                self.coming.remove(job)
                self.row.enter(job[0], job[2])

    def one_unit(self, finishing):
        running = self.row.running()
        self.units.append((running, tuple(name for name in running if name in finishing)))
        self.lengths.update(self.row.one_unit(len(self.units), finishing))
        self.let_in()


def history(jobs, rule, processors, choose):
    """The units up to the last finish, each a pair (running, finishing), and the lengths.

    `choose(unit, running, ran)` gives the names of the jobs that finish; `ran` counts this unit.
    """
    play = Play(jobs, rule, processors)
    while len(play.lengths) < len(jobs):
        ran = {job["name"]: job["ran"] + 1 for job in play.row.rows}
        play.one_unit(choose(len(play.units) + 1, play.row.running(), ran))
    return play.units, tuple(play.lengths[job[0]] for job in jobs)


def history_of(jobs, lengths, rule, processors):
    """The units of the run of these lengths."""
    needed = dict(zip([job[0] for job in jobs], lengths))
    return history(jobs, rule, processors, lambda unit, running, ran: [
        name for name in running if ran[name] == needed[name]])[0]


def lengths_from(jobs, marks, rule, processors):
    """The lengths that these right marks give."""
    by_unit = dict(marks)
    return history(jobs, rule, processors, lambda unit, running, ran: [
        running[place] for place in by_unit.get(unit, ())])[1]


def marks_fault(jobs, marks, rule, processors):
    """The place of the fault of pairs of integers and tuples of integers from 0 on, or None."""
    play = Play(jobs, rule, processors)
    for k, (unit, places) in enumerate(marks):
        if unit <= len(play.units) or list(places) != sorted(set(places)):
            return k
        while len(play.units) < unit - 1:
            play.one_unit(())
        running = play.row.running()
        if places[-1] >= len(running):
            return k
        play.one_unit([running[place] for place in places])
    return None if len(play.lengths) == len(jobs) else len(marks)


def stretches_from(contents):
    """The stretches of a list with one content for each unit."""
    starts = [k for k in range(len(contents)) if k == 0 or contents[k] != contents[k - 1]]
    ends = starts[1:] + [len(contents)]
    return tuple((start + 1, end, contents[start]) for start, end in zip(starts, ends))


def run_from(units):
    return stretches_from([running for running, _ in units])


def log_from(units):
    return tuple((k + 1, len(finishing)) for k, (_, finishing) in enumerate(units) if finishing)


def marks_from(units):
    return tuple((k + 1, tuple(running.index(name) for name in finishing))
                 for k, (running, finishing) in enumerate(units) if finishing)


def finishes_from(jobs, units):
    where = {name: k + 1 for k, (_, finishing) in enumerate(units) for name in finishing}
    return tuple(where[job[0]] for job in jobs)


def first_parting(ours, theirs):
    """The first unit in which the running jobs of two histories differ, or None."""
    for k in range(max(len(ours), len(theirs))):
        both = [units[k][0] if k < len(units) else () for units in (ours, theirs)]
        if both[0] != both[1]:
            return k + 1
    return None


def present_numbers(jobs, log):
    """The number of present jobs for each unit up to the last one of the log, and one more."""
    finishes = dict(log)
    numbers = []
    finished = 0
    for unit in range(1, (log[-1][0] if log else 0) + 2):
        arrived = [kind for _, (kind, number), _ in jobs if number <= (unit - 1 if kind == "at" else finished)]
        numbers.append(len(arrived) - finished)
        finished += finishes.get(unit, 0)
    return numbers


def all_lengths(many, most):
    """All length lists of so many jobs with lengths up to `most`."""
    return product(range(1, most + 1), repeat=many)


def all_logs(most_unit, most_finishes):
    """All logs whose units and finishes are at most these."""
    for many in range(most_unit + 1):
        for units in combinations(range(1, most_unit + 1), many):
            for finishes in product(range(1, most_finishes + 1), repeat=many):
                yield tuple(zip(units, finishes))


def some_rule(random):
    """A rule by chance, mostly with small numbers."""
    numbers = (None, 1, 1, 2, 3, 5, 10 ** 30)
    levels = [(random.choice(("queue", "stack")), random.choice(numbers)) for _ in range(random.randint(1, 6))]
    return tuple(levels), random.choice(numbers)


def some_jobs(random, most=6, latest=12):
    """Jobs by chance; none of them waits forever."""
    names = random.sample("abcdefghijkl", random.randint(0, most))
    arrivals = [("at", random.randint(0, random.choice((0, 2, latest)))) for _ in names]
    # The job that comes j-th in this hidden order may wait for up to j finishes.
    hidden = random.sample(range(len(names)), len(names))
    for j, k in enumerate(hidden):
        if j and random.random() < 0.4:
            arrivals[k] = ("after", random.randint(1, j))
    return tuple((name, arrival, random.choice((0, 0, 1, 2, 9))) for name, arrival in zip(names, arrivals))


def cases(seed, many, most=6):
    """So many tuples (jobs, lengths, rule, processors) by chance, always the same ones."""
    random = Random(seed)
    for _ in range(many):
        jobs = some_jobs(random, most)
        lengths = tuple(random.randint(1, random.choice((1, 3, 9))) for _ in jobs)
        yield jobs, lengths, some_rule(random), random.choice((1, 1, 2, 3, 8))
