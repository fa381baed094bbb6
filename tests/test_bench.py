"""Points 2, 7, 8, 9 and 25: the bench."""

import unittest
from random import Random

from blindslots.bench import Bench
from blindslots.errors import NoName, NoRule, NoUndo
from tests.checks import ODD_VALUES, Checks
from tests.reference import FIRST_COME, LAST_COME, ROUND_ROBIN, RULES, Row, some_rule

NO_NAMES = (
    "", "abcdefghi", "A", "aB", "a1", "1", "a b", " a", "a ", "a-b", "a_b", "`", "{", "a\n", "\n",
    None, True, False, 0, 1, (), ("a",), ("a", "b"), [], ["a"], (("a",),),
)


def seen(bench):
    """All that a bench tells, a dictionary with its order."""
    return (bench.moment(), bench.running(), bench.state(), tuple(bench.lengths().items()), bench.log())


def bench_with(rule, names, processors=1, entry=0):
    bench = Bench(rule, processors=processors)
    for name in names:
        bench.arrive(name, entry=entry)
    return bench


class Mirror:
    """What a bench should tell, by the reference and the calls that have not been taken back."""

    def __init__(self, rule, processors):
        self.calls = []
        self.rule = rule
        self.processors = processors

    def seen(self):
        """The answers after all these calls."""
        row = Row(self.rule, self.processors)
        moment = 0
        lengths = {}
        log = []
        for kind, value, entry in self.calls:
            if kind == "arrive":
                row.enter(value, entry)
                continue
            moment += 1
            finished = row.one_unit(moment, value)
            lengths.update(finished)
            if finished:
                log.append((moment, len(finished)))
        state = tuple(
            tuple((job["name"], job["used"], job["ran"]) for job in row.rows if job["level"] == level)
            for level in range(len(self.rule[0])))
        return moment, row.running(), state, tuple(lengths.items()), tuple(log)


class BenchTest(Checks):

    def check_no_name(self, name, bench, function, *arguments, **more):
        """The call raises NoName with this name, and nothing on the bench changes."""
        before = seen(bench)
        self.check_fault(NoName, "name", name, function, *arguments, **more)
        self.check_same(seen(bench), before)

    def test_example(self):
        bench = Bench(ROUND_ROBIN)
        self.assertIsNone(bench.arrive("a"))
        self.assertIsNone(bench.arrive("b"))
        self.check_same(bench.end_unit(), ("a",))
        self.check_same(bench.end_unit(("b",)), ("b",))
        self.check_same([bench.running(), bench.state(), bench.lengths(), bench.log()],
                        [("a",), ((("a", 0, 1),),), {"b": 1}, ((2, 1),)])

    def test_new_bench(self):
        for rule in RULES:
            for processors in (1, 3, 8):
                bench = Bench(rule, processors=processors)
                self.check_same(seen(bench), (0, (), ((),) * len(rule[0]), (), ()))
                self.check_same(bench.lengths(), {})

    def test_arguments_by_name(self):
        bench = Bench(rule=ROUND_ROBIN, processors=2)
        bench.arrive(name="a", entry=3)
        self.check_same(bench.end_unit(finishing=("a",)), ("a",))
        self.check_same(bench.lengths(), {"a": 1})

    def test_wrong_rule(self):
        for rule, place in (
            (None, 0), ((), 0), (((), None), 0), (((("queue", 0),), None), 0), (((("queue", 1), ("heap", 1)), None), 1),
            (((("queue", 1), ("stack", None)), 0), 2), ([(("queue", 1),), None], 0), (((("queue", 1),), True), 1),
        ):
            self.check_fault(NoRule, "place", place, Bench, rule)
            self.check_fault(NoRule, "place", place, Bench, rule, processors=2)
        for odd in ODD_VALUES:
            self.check_fault(NoRule, "place", 0, Bench, odd)

    def test_idle_units(self):
        bench = Bench(ROUND_ROBIN, processors=2)
        self.check_same(bench.end_unit(), ())
        self.check_same(bench.end_unit(()), ())
        self.check_same(seen(bench), (2, (), ((),), (), ()))
        bench.arrive("a")
        self.check_same(bench.end_unit(("a",)), ("a",))
        self.check_same(bench.end_unit(), ())
        self.check_same(seen(bench), (4, (), ((),), (("a", 1),), ((3, 1),)))

    def test_one_queue_without_quantum(self):
        bench = bench_with(FIRST_COME, "ab")
        for unit in range(1, 5):
            self.check_same(bench.end_unit(), ("a",))
            self.check_same(bench.state(), ((("a", unit, unit), ("b", 0, 0)),))
        self.check_same(bench.end_unit(("a",)), ("a",))
        self.check_same(seen(bench), (5, ("b",), ((("b", 0, 0),),), (("a", 5),), ((5, 1),)))

    def test_one_stack(self):
        bench = bench_with(LAST_COME, "ab")
        self.check_same(bench.running(), ("b",))
        self.check_same(bench.end_unit(), ("b",))
        bench.arrive("c")
        self.check_same(bench.end_unit(), ("c",))
        self.check_same(bench.state(), ((("c", 1, 1), ("b", 1, 1), ("a", 0, 0)),))
        self.check_same(bench.end_unit(("c",)), ("c",))
        # b keeps its place and its used number while c runs.
        self.check_same(bench.state(), ((("b", 1, 1), ("a", 0, 0)),))

    def test_stack_with_quantum_moves_to_its_end(self):
        bench = bench_with(((("stack", 2),), None), "abc")
        self.check_same(bench.state(), ((("c", 0, 0), ("b", 0, 0), ("a", 0, 0)),))
        bench.end_unit()
        self.check_same(bench.state(), ((("c", 1, 1), ("b", 0, 0), ("a", 0, 0)),))
        bench.end_unit()
        self.check_same(bench.state(), ((("b", 0, 0), ("a", 0, 0), ("c", 0, 2)),))

    def test_several_processors(self):
        bench = bench_with(((("queue", 2),), None), "abcd", processors=3)
        self.check_same(bench.end_unit(), ("a", "b", "c"))
        self.check_same(bench.end_unit(("b",)), ("a", "b", "c"))
        # Both others have used up their quantum; they move in their order.
        self.check_same(bench.state(), ((("d", 0, 0), ("a", 0, 2), ("c", 0, 2)),))
        self.check_same(bench.end_unit(("c", "d")), ("d", "a", "c"))
        self.check_same(seen(bench), (
            3, ("a",), ((("a", 1, 3),),), (("b", 2), ("d", 1), ("c", 3)), ((2, 1), (3, 2))))

    def test_lengths_in_the_order_of_the_running_jobs(self):
        bench = bench_with(FIRST_COME, "abcd", processors=4)
        self.check_same(bench.end_unit(("d", "a", "c")), ("a", "b", "c", "d"))
        self.check_same(list(bench.lengths().items()), [("a", 1), ("c", 1), ("d", 1)])
        self.check_same(bench.log(), ((1, 3),))
        bench.end_unit(("b",))
        self.check_same(list(bench.lengths().items()), [("a", 1), ("c", 1), ("d", 1), ("b", 2)])

    def test_finishing_goes_before_the_end_of_the_quantum(self):
        bench = bench_with(((("queue", 1), ("queue", 1)), None), "ab")
        bench.end_unit(("a",))
        self.check_same(bench.state(), ((("b", 0, 0),), ()))

    def test_levels_by_hand(self):
        bench = bench_with(((("queue", 1), ("queue", 2), ("queue", 3)), None), "ab")
        self.check_same(bench.end_unit(), ("a",))
        self.check_same(bench.state(), ((("b", 0, 0),), (("a", 0, 1),), ()))
        self.check_same(bench.end_unit(), ("b",))
        self.check_same(bench.end_unit(), ("a",))
        self.check_same(bench.state(), ((), (("a", 1, 2), ("b", 0, 1)), ()))
        # A new job on a level further up runs first; a keeps its place and its used number.
        bench.arrive("c")
        self.check_same(bench.end_unit(("c",)), ("c",))
        self.check_same(bench.end_unit(), ("a",))
        self.check_same(bench.state(), ((), (("b", 0, 1),), (("a", 0, 3),)))
        self.check_same([bench.end_unit() for _ in range(2)], [("b",), ("b",)])
        self.check_same(bench.state(), ((), (), (("a", 0, 3), ("b", 0, 3))))
        # The last level: a moves behind b on the same level.
        self.check_same([bench.end_unit() for _ in range(3)], [("a",)] * 3)
        self.check_same(bench.state(), ((), (), (("b", 0, 3), ("a", 0, 6))))

    def test_moving_to_a_stack_goes_to_its_end(self):
        bench = Bench(((("queue", 1), ("stack", None)), None))
        bench.arrive("a", entry=1)
        bench.arrive("b")
        self.check_same(bench.end_unit(), ("b",))
        self.check_same(bench.state(), ((), (("a", 0, 0), ("b", 0, 1))))

    def test_running_jobs_of_several_levels_move_in_their_order(self):
        bench = Bench(((("queue", 1), ("queue", 1), ("queue", 1)), None), processors=3)
        for name, entry in (("a", 2), ("b", 1), ("c", 0)):
            bench.arrive(name, entry=entry)
        self.check_same(bench.end_unit(), ("c", "b", "a"))
        self.check_same(bench.state(), ((), (("c", 0, 1),), (("b", 0, 1), ("a", 0, 1))))

    def test_entries(self):
        rule = ((("queue", None), ("stack", None), ("queue", None)), None)
        bench = Bench(rule)
        for name, entry in (("a", 2), ("b", 1), ("c", 0), ("d", 1), ("e", 3), ("f", 9), ("g", 0)):
            bench.arrive(name, entry=entry)
        names = [[job[0] for job in level] for level in bench.state()]
        self.assertEqual(names, [["c", "g"], ["d", "b"], ["a", "e", "f"]])
        stacks = ((("queue", None), ("stack", None)), None)
        for entry in range(1, 10):
            self.check_same(bench_with(stacks, "abc", entry=entry).running(), ("c",))
        self.check_same(bench_with(stacks, "abc").running(), ("a",))

    def test_boost(self):
        bench = bench_with(((("queue", 1), ("queue", None)), 3), "ab")
        bench.end_unit()
        bench.end_unit()
        self.check_same(bench.state(), ((), (("a", 0, 1), ("b", 0, 1))))
        bench.end_unit()
        # The used number of a is 0 again.
        self.check_same(bench.state(), ((("a", 0, 2), ("b", 0, 1)), ()))
        bench.arrive("c")
        self.check_same(bench.state()[0], (("a", 0, 2), ("b", 0, 1), ("c", 0, 0)))

    def test_boost_keeps_the_order_on_a_stack(self):
        bench = bench_with(((("stack", 1), ("stack", 2)), 2), "abc", processors=2)
        self.check_same(bench.end_unit(), ("c", "b"))
        self.check_same(bench.state(), ((("a", 0, 0),), (("c", 0, 1), ("b", 0, 1))))
        self.check_same(bench.end_unit(), ("a", "c"))
        self.check_same(bench.state(), ((("c", 0, 2), ("b", 0, 1), ("a", 0, 1)), ()))

    def test_boost_of_one_level_ends_all_quanta(self):
        bench = bench_with(((("queue", 2),), 3), "ab")
        for _ in range(3):
            bench.end_unit()
        self.check_same(bench.state(), ((("b", 0, 1), ("a", 0, 2)),))
        self.check_same([bench.end_unit() for _ in range(3)], [("b",), ("b",), ("a",)])

    def test_no_boost_at_moment_0(self):
        bench = bench_with(((("queue", 1), ("queue", 1)), 1), "a", entry=1)
        self.check_same(bench.state(), ((), (("a", 0, 0),)))
        bench.end_unit()
        self.check_same(bench.state(), ((("a", 0, 1),), ()))

    def test_large_quantum_and_boost(self):
        bench = bench_with(((("queue", 10 ** 30), ("stack", 10 ** 30)), 10 ** 30), "ab")
        for _ in range(298):
            self.check_same(bench.end_unit(), ("a",))
        self.check_same(bench.state(), ((("a", 298, 298), ("b", 0, 0)), ()))

    def test_arrive_with_a_wrong_name(self):
        bench = bench_with(ROUND_ROBIN, "ab")
        bench.end_unit()
        for name in NO_NAMES:
            self.check_no_name(name, bench, bench.arrive, name)
            self.check_no_name(name, bench, bench.arrive, name, entry=2)
        for odd in [odd for odd in ODD_VALUES if odd not in ("abc", "at", "after", "queue", "stack")]:
            self.check_no_name(odd, bench, bench.arrive, odd)
        for name in ("z", "abcdefgh", "at"):
            bench.arrive(name)

    def test_arrive_with_a_used_name(self):
        bench = bench_with(FIRST_COME, "ab", processors=2)
        self.check_no_name("a", bench, bench.arrive, "a")
        bench.end_unit(("a",))
        self.check_no_name("a", bench, bench.arrive, "a")
        self.check_no_name("b", bench, bench.arrive, "b", entry=1)

    def test_finishing_jobs_that_do_not_run(self):
        bench = bench_with(ROUND_ROBIN, "abcd", processors=2)
        bench.end_unit(("a",))
        # The running jobs are c and d now; b waits and a has finished.
        self.check_same(bench.running(), ("c", "d"))
        for finishing, name in (
            (("a",), "a"), (("b",), "b"), (("x",), "x"), (("",), ""), (("c", "b"), "b"), (("b", "x"), "b"),
            (("c", "d", "x", "y"), "x"), (("x", "c"), "x"), ((None,), None), ((0,), 0), ((("c",),), ("c",)),
            ((["c"],), ["c"]), (("c", True), True),
        ):
            self.check_no_name(name, bench, bench.end_unit, finishing)

    def test_finishing_job_that_stands_earlier(self):
        bench = bench_with(FIRST_COME, "abc", processors=3)
        for finishing, name in (
            (("a", "a"), "a"), (("a", "b", "a"), "a"), (("a", "b", "b", "a"), "b"), (("c", "c", "x"), "c"),
            (("a", "x", "a"), "x"), (("a", "b", "c", "b"), "b"),
        ):
            self.check_no_name(name, bench, bench.end_unit, finishing)
        self.check_same(bench.end_unit(("c", "b", "a")), ("a", "b", "c"))

    def test_nobody_finishes_in_an_idle_unit(self):
        bench = Bench(FIRST_COME)
        self.check_no_name("a", bench, bench.end_unit, ("a",))
        self.check_same(bench.moment(), 0)

    def test_undo(self):
        bench = bench_with(ROUND_ROBIN, "ab")
        states = [seen(bench)]
        bench.end_unit()
        states.append(seen(bench))
        bench.end_unit(("b",))
        states.append(seen(bench))
        bench.arrive("c")
        for state in reversed(states):
            self.assertIsNone(bench.undo())
            self.check_same(seen(bench), state)
        # The name of a call that is taken back is free again.
        bench.undo()
        bench.arrive("b")
        self.check_same(bench.running(), ("a",))

    def test_nothing_to_undo(self):
        bench = Bench(ROUND_ROBIN)
        for _ in range(2):
            with self.assertRaises(NoUndo):
                bench.undo()
        bench.arrive("a")
        bench.end_unit()
        bench.undo()
        bench.undo()
        with self.assertRaises(NoUndo):
            bench.undo()
        self.check_same(seen(bench), (0, (), ((),), (), ()))

    def test_undo_is_not_undone(self):
        bench = bench_with(ROUND_ROBIN, "abc")
        bench.undo()
        bench.undo()
        self.check_same(bench.state(), ((("a", 0, 0),),))

    def test_undo_skips_calls_that_raised_an_error(self):
        bench = bench_with(ROUND_ROBIN, "ab")
        bench.end_unit()
        for call in (lambda: bench.arrive("a"), lambda: bench.arrive(""), lambda: bench.end_unit(("a",)),
                     lambda: bench.end_unit(("b", "b"))):
            with self.assertRaises(NoName):
                call()
        bench.undo()
        self.check_same(seen(bench), (0, ("a",), ((("a", 0, 0), ("b", 0, 0)),), (), ()))

    def test_undo_of_a_finish(self):
        bench = bench_with(((("queue", 2), ("queue", 1)), 5), "ab")
        bench.end_unit(("a",))
        bench.undo()
        self.check_same(bench.lengths(), {})
        self.check_no_name("a", bench, bench.arrive, "a")
        bench.end_unit()
        self.check_same(bench.end_unit(("a",)), ("a",))
        self.check_same(bench.lengths(), {"a": 2})

    def test_300_calls_and_all_taken_back(self):
        rule = RULES[-1]
        bench = bench_with(rule, "abcdefghijkl", processors=5)
        states = []
        for _ in range(288):
            states.append(seen(bench))
            bench.end_unit()
        for state in reversed(states):
            bench.undo()
            self.check_same(seen(bench), state)
        for _ in range(12):
            bench.undo()
        with self.assertRaises(NoUndo):
            bench.undo()

    def test_two_benches(self):
        first = Bench(ROUND_ROBIN)
        second = Bench(ROUND_ROBIN)
        first.arrive("a")
        first.end_unit(("a",))
        self.check_same(seen(second), (0, (), ((),), (), ()))
        second.arrive("a")
        second.arrive("b")
        before = seen(first)
        second.end_unit()
        second.undo()
        self.check_same(seen(first), before)
        self.check_same(seen(second), (0, ("a",), ((("a", 0, 0), ("b", 0, 0)),), (), ()))
        with self.assertRaises(NoUndo):
            for _ in range(3):
                first.undo()
        self.check_same(second.running(), ("a",))

    def test_returned_dictionary_may_be_changed(self):
        bench = bench_with(FIRST_COME, "ab")
        bench.end_unit(("a",))
        before = seen(bench)
        for change in (lambda told: told.clear(), lambda told: told.update(a=7, b=1), lambda told: told.pop("a")):
            change(bench.lengths())
            self.check_same(seen(bench), before)
        kept = bench.lengths()
        bench.end_unit(("b",))
        self.check_same(kept, {"a": 1})
        self.check_same(bench.lengths(), {"a": 1, "b": 1})
        bench.undo()
        self.check_same(bench.lengths(), {"a": 1})

    def test_answers_change_nothing(self):
        bench = bench_with(RULES[-1], "abc", processors=2)
        bench.end_unit(("a",))
        states = [seen(bench) for _ in range(4)]
        self.check_same(states, [states[0]] * 4)
        bench.undo()
        self.check_same(bench.moment(), 0)

    def test_against_the_reference(self):
        """Calls by chance, right and wrong ones, and calls that are taken back."""
        random = Random(25)
        for k in range(400):
            rule = RULES[k] if k < len(RULES) else some_rule(random)
            processors = random.choice((1, 2, 3, 8))
            bench = Bench(rule, processors=processors)
            mirror = Mirror(rule, processors)
            for _ in range(random.choice((10, 40))):
                self.one_call(random, bench, mirror)
                self.check_same(seen(bench), mirror.seen())

    def one_call(self, random, bench, mirror):
        chance = random.random()
        if chance < 0.25:
            name, entry = random.choice("abcdefghijkl"), random.choice((0, 1, 2, 5, 9))
            if ("arrive", name) in [call[:2] for call in mirror.calls]:
                self.check_no_name(name, bench, bench.arrive, name, entry=entry)
            else:
                bench.arrive(name, entry=entry)
                mirror.calls.append(("arrive", name, entry))
        elif chance < 0.8:
            self.one_unit(random, bench, mirror)
        elif mirror.calls:
            bench.undo()
            mirror.calls.pop()
        else:
            with self.assertRaises(NoUndo):
                bench.undo()

    def one_unit(self, random, bench, mirror):
        running = bench.running()
        finishing = [name for name in running if random.random() < 0.2]
        random.shuffle(finishing)
        if random.random() < 0.1:
            wrong = random.choice(finishing + ["x"])
            self.check_no_name(wrong, bench, bench.end_unit, tuple(finishing + [wrong]))
        self.check_same(bench.end_unit(tuple(finishing)), running)
        mirror.calls.append(("end", tuple(finishing), 0))


if __name__ == "__main__":
    unittest.main()
