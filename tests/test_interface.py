"""The interface: names, arguments and default values, and where each function is defined."""

import inspect
import unittest

from blindslots import bench, logs, marks, runs
from tests.checks import Checks

FIRST = "rule=((('queue', None),), None), processors=1"
BOTH = "rule, other, processors=1"
SIGNATURES = {
    logs: {
        "presence": "(jobs, log)",
        "first_fault": "(jobs, log, *, processors=1)",
        "ways": "(jobs, log, *, processors=1)",
    },
    runs: {
        "run": f"(jobs, lengths, *, {FIRST})",
        "finish_units": f"(jobs, lengths, *, {FIRST})",
        "log_of": f"(jobs, lengths, *, {FIRST})",
        "units_of": f"(jobs, lengths, name, *, {FIRST})",
        "first_split": f"(jobs, lengths, others, *, {FIRST})",
    },
    marks: {
        "marks_of": f"(jobs, lengths, *, {FIRST})",
        "lengths_of": f"(jobs, marks, *, {FIRST})",
        "nth_lengths": f"(jobs, log, number, *, {FIRST})",
        "number_of": f"(jobs, lengths, *, {FIRST})",
        "translate": f"(jobs, lengths, *, {BOTH})",
        "cycle": f"(jobs, lengths, *, {BOTH})",
        "parting": f"(jobs, marks, *, {BOTH})",
    },
    bench: {"Bench": "(rule, *, processors=1)"},
}
METHODS = {
    "arrive": "(self, name, *, entry=0)", "end_unit": "(self, finishing=())", "undo": "(self)",
    "moment": "(self)", "running": "(self)", "state": "(self)", "lengths": "(self)", "log": "(self)",
}


class InterfaceTest(Checks):

    def test_signatures(self):
        for module, functions in SIGNATURES.items():
            for name, signature in functions.items():
                found = getattr(module, name)
                self.assertEqual(str(inspect.signature(found)), signature)
                self.assertEqual(found.__module__, module.__name__)

    def test_methods_stand_in_the_class_itself(self):
        for name, signature in METHODS.items():
            found = vars(bench.Bench)[name]
            self.assertEqual(str(inspect.signature(found)), signature)


if __name__ == "__main__":
    unittest.main()
