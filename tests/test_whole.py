"""What the document promises over the whole program: points 4, 5, 7 to 11, 13 to 15, 17 to 20 and 25."""

import unittest
from random import Random

from blindslots.bench import Bench
from blindslots.logs import first_fault, presence, ways
from blindslots.marks import cycle, lengths_of, marks_of, nth_lengths, number_of, parting, translate
from blindslots.named import fitting, lengths_from_names, names_of
from blindslots.runs import finish_units, first_split, log_of, run, units_of
from tests.checks import Checks
from tests.reference import RULES, cases, some_jobs, some_rule, stretches_from

FAR = 10 ** 30


class Told:
    """All that the package tells of a run."""

    def __init__(self, jobs, lengths, rule, processors):
        self.jobs = jobs
        more = {"rule": rule, "processors": processors}
        self.run = run(jobs, lengths, **more)
        self.finish_units = finish_units(jobs, lengths, **more)
        self.log = log_of(jobs, lengths, **more)
        self.marks = marks_of(jobs, lengths, **more)
        self.names = names_of(jobs, lengths, **more)
        self.number = number_of(jobs, lengths, **more)
        self.ways = ways(jobs, self.log, processors=processors)
        self.presence = presence(jobs, self.log)
        self.units = [units_of(jobs, lengths, job[0], **more) for job in jobs]


def moved(rows, place):
    """These pairs or triples, with their units, and the ends of their stretches, elsewhere."""
    return tuple((place(row[0]),) + tuple(row[1:]) for row in rows)


def stretched(rows, first, last):
    """These stretches with other first and last units."""
    return tuple((first(row[0]), last(row[1])) + tuple(row[2:]) for row in rows)


def scaled_number(number, times):
    return None if number is None else number * times


def scaled_jobs(jobs, times):
    return tuple((name, (kind, number * times if kind == "at" else number), entry)
                 for name, (kind, number), entry in jobs)


def scaled_rule(rule, times):
    levels, boost = rule
    return tuple((kind, scaled_number(quantum, times)) for kind, quantum in levels), scaled_number(boost, times)


def later_jobs(jobs, moment, finished=0):
    """The jobs, later by so many units and behind so many more finishes."""
    return tuple((name, (kind, number + (moment if kind == "at" else finished)), entry)
                 for name, (kind, number), entry in jobs)


def far_boost(rule):
    """The rule with a boost that divides 10 ** 30, if it has a boost, and that boost."""
    levels, boost = rule
    return levels, {None: None, 1: 1, 2: 2, 3: 4, 5: 5, 4: 8, 10 ** 30: 10 ** 30}[boost]


class BenchTest(Checks):

    def test_bench_told_by_hand_runs_the_same_jobs(self):
        for jobs, lengths, rule, processors in cases(80, 500, 8):
            more = {"rule": rule, "processors": processors}
            bench = Bench(rule, processors=processors)
            needed = dict(zip([job[0] for job in jobs], lengths))
            coming = list(jobs)
            units = []
            while True:
                coming = self.let_in(bench, coming)
                if len(bench.lengths()) == len(jobs):
                    break
                units.append(self.one_unit(bench, needed))
            self.check_same(stretches_from(units), run(jobs, lengths, **more))
            self.check_same(bench.log(), log_of(jobs, lengths, **more))
            self.assertEqual(bench.lengths(), needed)
            self.check_same(tuple(bench.lengths()), tuple(
                name for _, names in names_of(jobs, lengths, **more) for name in names))
            self.check_same(bench.state(), ((),) * len(rule[0]))

    def let_in(self, bench, coming):
        """The jobs that have not arrived at the current moment; the others arrive."""
        finished = len(bench.lengths())
        here = [job for job in coming if job[1][1] <= (bench.moment() if job[1][0] == "at" else finished)]
        for name, _, entry in here:
            bench.arrive(name, entry=entry)
        return [job for job in coming if job not in here]

    def one_unit(self, bench, needed):
        ran = {name: units for level in bench.state() for name, _, units in level}
        running = bench.running()
        finishing = tuple(name for name in reversed(running) if ran[name] + 1 == needed[name])
        self.check_same(bench.end_unit(finishing), running)
        return running


class FarTest(Checks):

    def test_runs_that_begin_far_away(self):
        random = Random(81)
        for jobs, lengths, rule, processors in cases(81, 500, 8):
            rule = far_boost(rule)
            if not jobs:
                continue
            start = FAR * random.choice((1, 2, 3))
            here = Told(jobs, lengths, rule, processors)
            there = Told(later_jobs(jobs, start), lengths, rule, processors)
            self.check_far(here, there, lambda unit: unit + start, start)
            more = {"rule": rule, "processors": processors}
            self.check_same(lengths_of(there.jobs, there.marks, **more), lengths)
            self.check_same(lengths_from_names(there.jobs, there.names, **more), lengths)
            others = tuple(random.randint(1, 6) for _ in jobs)
            self.check_units(
                [first_split(each.jobs, lengths, others, **more) for each in (here, there)], start)
            other = far_boost(some_rule(random))
            self.check_same(translate(there.jobs, lengths, other=other, **more),
                            translate(jobs, lengths, other=other, **more))
            self.check_units([parting(each.jobs, each.marks, other=other, **more) for each in (here, there)], start)
            rules = RULES[:2] + (rule, other)
            rules = tuple(far_boost(each) for each in rules)
            self.check_same(fitting(there.jobs, there.names, rules, processors=processors),
                            fitting(jobs, here.names, rules, processors=processors))

    def check_units(self, units, start):
        self.check_same(units[1], None if units[0] is None else units[0] + start)

    def check_far(self, here, there, place, start):
        idle = here.run[0][1] if here.run[0][2] == () else 0
        behind = here.run[1:] if idle else here.run
        self.check_same(there.run, ((1, start + idle, ()),) + stretched(behind, place, place))
        self.check_same(there.finish_units, tuple(place(unit) for unit in here.finish_units))
        self.check_same(there.log, moved(here.log, place))
        self.check_same(there.marks, moved(here.marks, place))
        self.check_same(there.names, moved(here.names, place))
        self.check_same((there.number, there.ways), (here.number, here.ways))
        self.check_same(there.units, [stretched(rows, place, place) for rows in here.units])
        behind = here.presence[1:] if idle else here.presence
        self.check_same(there.presence, ((1, start + idle, 0),) + stretched(behind, place, place))


class ScaledTest(Checks):

    def test_multiplied_numbers(self):
        random = Random(82)
        for jobs, lengths, rule, processors in cases(82, 400, 8):
            rule = self.small(rule)
            times = random.choice((2, 3, 7, 10 ** 20))
            here = Told(jobs, lengths, rule, processors)
            longer = tuple(length * times for length in lengths)
            there = Told(scaled_jobs(jobs, times), longer, scaled_rule(rule, times), processors)
            self.check_scaled(here, there, times)
            more = {"rule": rule, "processors": processors}
            most = {"rule": scaled_rule(rule, times), "processors": processors}
            self.check_same(lengths_of(there.jobs, there.marks, **most), longer)
            self.check_same(lengths_from_names(there.jobs, there.names, **most), longer)
            others = tuple(random.randint(1, 6) for _ in jobs)
            split = first_split(jobs, lengths, others, **more)
            self.check_first(split, times, first_split(
                there.jobs, longer, tuple(length * times for length in others), **most))
            self.check_other_rule(here, there, lengths, (rule, self.small(some_rule(random))), times, processors)
            number = random.randrange(here.ways)
            self.check_same(nth_lengths(there.jobs, there.log, number, **most), tuple(
                length * times for length in nth_lengths(jobs, here.log, number, **more)))

    def small(self, rule):
        """The rule without quanta and boosts beyond all runs."""
        levels, boost = rule
        return (tuple((kind, None if quantum == FAR else quantum) for kind, quantum in levels),
                None if boost == FAR else boost)

    def check_scaled(self, here, there, times):
        def last(unit):
            return unit * times

        def first(unit):
            return (unit - 1) * times + 1

        self.check_same(there.run, stretched(here.run, first, last))
        self.check_same(there.presence, stretched(here.presence, first, last))
        self.check_same(there.units, [stretched(rows, first, last) for rows in here.units])
        self.check_same(there.finish_units, tuple(last(unit) for unit in here.finish_units))
        self.check_same(there.log, moved(here.log, last))
        self.check_same(there.marks, moved(here.marks, last))
        self.check_same(there.names, moved(here.names, last))
        self.check_same((there.number, there.ways), (here.number, here.ways))

    def check_first(self, unit, times, found):
        self.check_same(found, None if unit is None else (unit - 1) * times + 1)

    def check_other_rule(self, here, there, lengths, rules, times, processors):
        rule, other = rules
        more = {"rule": rule, "other": other, "processors": processors}
        most = {"rule": scaled_rule(rule, times), "other": scaled_rule(other, times), "processors": processors}
        longer = tuple(length * times for length in lengths)
        self.check_same(translate(there.jobs, longer, **most), tuple(
            length * times for length in translate(here.jobs, lengths, **more)))
        self.check_first(parting(here.jobs, here.marks, **more), times, parting(there.jobs, there.marks, **most))
        names = names_of(here.jobs, lengths, rule=other, processors=processors)
        self.check_same(
            fitting(there.jobs, moved(names, lambda unit: unit * times), (most["rule"], most["other"]),
                    processors=processors),
            fitting(here.jobs, names, (rule, other), processors=processors))

    def test_multiplied_cycles(self):
        random = Random(83)
        for _ in range(60):
            jobs = some_jobs(random, 3, 4)
            lengths = tuple(random.randint(1, 4) for _ in jobs)
            rule, other = self.small(some_rule(random)), self.small(some_rule(random))
            processors, times = random.choice((1, 2)), random.choice((2, 5, 10 ** 20))
            found = cycle(jobs, lengths, rule=rule, other=other, processors=processors)
            self.check_same(
                cycle(scaled_jobs(jobs, times), tuple(length * times for length in lengths),
                      rule=scaled_rule(rule, times), other=scaled_rule(other, times), processors=processors),
                tuple(tuple(length * times for length in each) for each in found))

    def test_multiplied_faults(self):
        random = Random(84)
        for _ in range(500):
            jobs = some_jobs(random, 4, 6)
            units = sorted(random.sample(range(1, 9), random.randint(0, 4)))
            log = tuple((unit, random.choice((1, 1, 2))) for unit in units)
            processors, times = random.choice((1, 2, 3)), random.choice((2, 5, 10 ** 20))
            fault = first_fault(jobs, log, processors=processors)
            if fault and fault[0] == "crowded":
                fault = ("crowded", fault[1] * times, fault[2])
            longer = moved(log, lambda unit: unit * times)
            self.check_same(first_fault(scaled_jobs(jobs, times), longer, processors=processors), fault)
            self.check_same(ways(scaled_jobs(jobs, times), longer, processors=processors),
                            ways(jobs, log, processors=processors))


class LotsTest(Checks):

    def test_a_lot_behind_another_one(self):
        """The jobs of the second lot come when those of the first one have finished."""
        random = Random(85)
        rows = list(cases(85, 800, 5))
        for (jobs, lengths, rule, processors), (others, their_lengths, _, _) in zip(rows[::2], rows[1::2]):
            rule = far_boost(rule)
            others = tuple((name.upper().translate(dict(zip(range(65, 77), "mnopqrstuvwx"))), *job)
                           for name, *job in others)
            first = Told(jobs, lengths, rule, processors)
            second = Told(others, their_lengths, rule, processors)
            end = max(first.finish_units, default=0)
            # At once where that is a multiple of each boost, or later.
            start = random.choice((end + -end % 40, end + -end % 40 + 40, FAR))
            behind = later_jobs(others, start, len(jobs))
            # How both lots are mixed up in the list does not matter.
            places = sorted(random.sample(range(len(jobs) + len(others)), len(jobs)))
            both, both_lengths = self.mixed(places, jobs, lengths, behind, their_lengths)
            found = Told(both, both_lengths, rule, processors)
            self.check_lots(found, first, second, start)
            other = far_boost(some_rule(random))
            more = {"rule": rule, "other": other, "processors": processors}
            self.check_same(translate(both, both_lengths, **more), self.mixed(
                places, jobs, translate(jobs, lengths, **more), others, translate(others, their_lengths, **more))[1])
            self.check_partings(found, first, second, start, more)

    def mixed(self, places, jobs, lengths, others, their_lengths):
        """The jobs and lengths of both lots, those of the first one at these places."""
        ours, theirs = list(zip(jobs, lengths)), list(zip(others, their_lengths))
        both = [ours.pop(0) if k in places else theirs.pop(0) for k in range(len(jobs) + len(others))]
        return tuple(job for job, _ in both), tuple(length for _, length in both)

    def check_lots(self, found, first, second, start):
        def place(unit):
            return unit + start

        self.check_same(found.log, first.log + moved(second.log, place))
        self.check_same(found.marks, first.marks + moved(second.marks, place))
        self.check_same(found.names, first.names + moved(second.names, place))
        self.check_same(found.number, first.number * second.ways + second.number)
        self.check_same(found.ways, first.ways * second.ways)
        units = dict(zip([job[0] for job in first.jobs], first.finish_units))
        units.update(zip([job[0] for job in second.jobs], map(place, second.finish_units)))
        self.check_same(found.finish_units, tuple(units[job[0]] for job in found.jobs))
        inside = {job[0]: rows for job, rows in zip(first.jobs, first.units)}
        inside.update({job[0]: stretched(rows, place, place) for job, rows in zip(second.jobs, second.units)})
        self.check_same(found.units, [inside[job[0]] for job in found.jobs])
        busy = [row for row in found.run if row[2]]
        self.check_same(busy, [row for row in first.run + stretched(second.run, place, place) if row[2]])

    def check_partings(self, found, first, second, start, more):
        partings = [parting(each.jobs, each.marks, **more) for each in (first, second)]
        expected = partings[0]
        if expected is None and partings[1] is not None:
            expected = partings[1] + start
        self.check_same(parting(found.jobs, found.marks, **more), expected)


class BeyondTest(Checks):

    def test_what_a_rule_says_beyond_all_that_happens(self):
        random = Random(86)
        for jobs, lengths, rule, processors in cases(86, 300, 8):
            here = Told(jobs, lengths, rule, processors)
            end = max(here.finish_units, default=0)
            more = {"rule": rule, "processors": processors}
            for changed in self.equal_rules(random, jobs, rule, end):
                there = Told(jobs, lengths, changed, processors)
                self.assertEqual(vars(there), vars(here))
                most = {"rule": changed, "processors": processors}
                self.assertIsNone(parting(jobs, here.marks, other=changed, **more))
                self.check_same(translate(jobs, lengths, other=changed, **more), lengths)
                self.check_same(translate(jobs, lengths, rule=changed, other=rule, processors=processors), lengths)
                self.check_same(fitting(jobs, here.names, (rule, changed), processors=processors), (0, 1))
                self.check_same(lengths_of(jobs, here.marks, **most), lengths)
                self.check_same(lengths_from_names(jobs, here.names, **most), lengths)

    def equal_rules(self, random, jobs, rule, end):
        """Rules that do the same up to this unit."""
        levels, boost = rule
        beyond = random.choice((end + 1, end + 7, FAR))
        # Without a quantum, or with one that is as long as all that happens.
        wide = tuple((kind, quantum if quantum else beyond) for kind, quantum in levels)
        free = tuple((kind, quantum if quantum and quantum <= end else None) for kind, quantum in levels)
        late = beyond if boost is None or boost > end else boost
        rules = [(wide, boost), (free, boost), (levels, late), (wide, late)]
        # Nobody goes down from a level without a quantum, and nobody enters below it.
        if levels[-1][1] is None and all(job[2] < len(levels) for job in jobs):
            below = tuple((random.choice(("queue", "stack")), random.choice((None, 1, 3))) for _ in range(2))
            rules.append(((levels + below)[:6], late))
        return rules

    def test_bench(self):
        random = Random(87)
        for _ in range(100):
            levels = tuple((random.choice(("queue", "stack")), random.choice((1, 2, None))) for _ in range(2))
            rule = (levels + (("queue", None),), None)
            changed = (levels + (("queue", FAR), ("stack", 1)), 31)
            benches = [Bench(each, processors=2) for each in (rule, changed)]
            for unit in range(30):
                entry = random.randint(0, 2)
                finishing = random.sample(benches[0].running(), len(benches[0].running()))[:random.choice((0, 0, 1))]
                for bench in benches:
                    if unit < 12:
                        bench.arrive("abcdefghijkl"[unit], entry=entry)
                running = [bench.running() for bench in benches]
                self.check_same(running[0], running[1])
                finishing = tuple(name for name in finishing if name in running[0])
                for bench in benches:
                    bench.end_unit(finishing)
                self.check_same(benches[0].state(), benches[1].state()[:3])
                self.check_same(benches[0].lengths(), benches[1].lengths())


if __name__ == "__main__":
    unittest.main()
