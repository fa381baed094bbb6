"""The interface: names, arguments and default values, and where each function is defined."""

import inspect
import unittest

from blindslots import bench, console, counts, jobs, logs, marks, named, robin, rules, runs, texts
from tests.checks import Checks

FIRST = "rule=((('queue', None),), None), processors=1"
BOTH = "rule, other, processors=1"
SIGNATURES = {
    rules: {"check_rule": "(rule)"},
    jobs: {"check_jobs": "(jobs)", "arrived": "(jobs, moment, finished)"},
    texts: {"show_jobs": "(jobs)", "show_rule": "(rule)", "read_jobs": "(text)", "read_rule": "(text)"},
    logs: {
        "presence": "(jobs, log)",
        "first_fault": "(jobs, log, *, processors=1)",
        "ways": "(jobs, log, *, processors=1)",
    },
    runs: {
        "run": f"(jobs, lengths, *, {FIRST})",
        "finish_units": f"(jobs, lengths, *, {FIRST})",
        "log_of": f"(jobs, lengths, *, {FIRST})",
        "units_of": f"(jobs, lengths, name, *, {FIRST})",
        "first_split": f"(jobs, lengths, others, *, {FIRST})",
    },
    marks: {
        "marks_of": f"(jobs, lengths, *, {FIRST})",
        "lengths_of": f"(jobs, marks, *, {FIRST})",
        "nth_lengths": f"(jobs, log, number, *, {FIRST})",
        "number_of": f"(jobs, lengths, *, {FIRST})",
        "translate": f"(jobs, lengths, *, {BOTH})",
        "cycle": f"(jobs, lengths, *, {BOTH})",
        "parting": f"(jobs, marks, *, {BOTH})",
    },
    named: {
        "names_of": f"(jobs, lengths, *, {FIRST})",
        "lengths_from_names": f"(jobs, named, *, {FIRST})",
        "fitting": "(jobs, named, rules, *, processors=1)",
    },
    counts: {
        "count_within": "(jobs, last, *, processors=1)",
        "count_kth": "(jobs, k, unit, last, *, processors=1)",
        "count_sums": "(jobs, last, *, processors=1)",
        "count_logs": "(jobs, last, *, processors=1)",
        "nth_log": "(jobs, last, number, *, processors=1)",
        "number_of_log": "(jobs, log, last, *, processors=1)",
    },
    robin: {
        "robin_units": "(lengths)",
        "robin_order": "(lengths)",
        "least_lengths": "(order)",
        "count_robin": "(order, total)",
    },
    bench: {"Bench": "(rule, *, processors=1)"},
    console: {"Console": "()"},
}
METHODS = {
    "arrive": "(self, name, *, entry=0)", "end_unit": "(self, finishing=())", "undo": "(self)",
    "moment": "(self)", "running": "(self)", "state": "(self)", "lengths": "(self)", "log": "(self)",
}


class InterfaceTest(Checks):

    def test_signatures(self):
        for module, functions in SIGNATURES.items():
            for name, signature in functions.items():
                found = getattr(module, name)
                self.assertEqual(str(inspect.signature(found)), signature)
                self.assertEqual(found.__module__, module.__name__)

    def test_methods_stand_in_the_class_itself(self):
        for name, signature in METHODS.items():
            found = vars(bench.Bench)[name]
            self.assertEqual(str(inspect.signature(found)), signature)
        self.assertEqual(str(inspect.signature(vars(console.Console)["ask"])), "(self, line)")

    def test_rules(self):
        self.check_same(rules.FIRST_COME, ((("queue", None),), None))
        self.check_same(rules.LAST_COME, ((("stack", None),), None))
        self.check_same(rules.ROUND_ROBIN, ((("queue", 1),), None))


if __name__ == "__main__":
    unittest.main()
