"""Points 4 to 6: jobs, their arrivals, and jobs that wait forever."""

import unittest
from itertools import permutations, product

from blindslots.errors import NoJobs
from blindslots.jobs import arrived, check_jobs
from tests.checks import ODD_VALUES, Checks, with_item

NAMES = "abcdefghijkl"
FOUR = (
    ("a", ("at", 0), 0), ("bc", ("after", 1), 3), ("def", ("at", 10 ** 30), 9), ("abcdefgh", ("after", 2), 1),
)
NO_NAMES = (
    "", "abcdefghi", "aaaaaaaaaaaa", "A", "aB", "Ba", "a1", "1", "0", "a b", " a", "a ", " ", "a-b", "a_b", "_",
    "a.", "`", "{", "@", "[", "a{", "`a", "a\n", "\na", "\n",
    None, True, False, 0, 1, (), ("a",), ("a", "b"), [], ["a"], (("a",),),
)
NO_ARRIVALS = (
    ("at", -1), ("at", -(10 ** 30)), ("at", True), ("at", False), ("at", None), ("at", "0"), ("at", ""),
    ("at", ()), ("at", (0,)), ("at", []), ("at", [0]),
    ("after", 0), ("after", -1), ("after", True), ("after", False), ("after", None), ("after", "1"),
    ("after", (1,)), ("after", [1]),
    ("", 1), ("At", 1), ("AT", 1), ("at ", 1), (" at", 1), ("a", 1), ("aft", 1), ("After", 1), ("after ", 1),
    ("before", 1), ("queue", 1), (None, 1), (True, 1), (0, 1), (1, 1), ((), 1), (("at",), 1), ([], 1), (["at"], 1),
    (), ("at",), ("after",), ("at", 0, 0), ("after", 1, 1), ("at", 1, "after", 1), (1, "after"), (0, "at"),
    [], ["at", 0], ["after", 1], [("at", 0)], (("at", 0),), "", "at", "a0", "after", None, True, False, 0, 1,
)
NO_ENTRIES = (-1, 10, 11, -(10 ** 30), 10 ** 30, True, False, None, "", "0", "1", (), (0,), [], [0])
NO_FORMS = (
    None, True, False, 0, 1, 3, "", "a", "abc", (), ("a",), ("a", ("at", 0)), ("a", ("at", 0), 0, 0),
    ("a", ("at", 0), 0, None), ("a", "at", 0, 0), ["a", ("at", 0), 0], [], ["a"], ["a", "b", "c"],
    (("a", ("at", 0), 0),), [("a", ("at", 0), 0)], (("at", 0), "a", 0), (0, ("at", 0), "a"),
)


def jobs_with(*arrivals):
    """Jobs called a, b, c .. with these arrivals."""
    return tuple((NAMES[k], arrival, 0) for k, arrival in enumerate(arrivals))


class JobTest(Checks):

    def check_no_jobs(self, jobs, place):
        self.check_fault(NoJobs, "place", place, check_jobs, jobs)
        self.check_fault(NoJobs, "place", place, arrived, jobs, 0, 0)

    def check_at_each_place(self, job):
        """A job that is invalid by itself is found at each place of valid jobs."""
        self.check_no_jobs((job,), 0)
        for place in range(len(FOUR)):
            self.check_no_jobs(with_item(FOUR, place, job), place)
        self.check_no_jobs(FOUR + (job,), 4)

    def test_functions_stand_in_their_file(self):
        self.assertEqual(check_jobs.__module__, "blindslots.jobs")
        self.assertEqual(arrived.__module__, "blindslots.jobs")

    def test_valid_jobs(self):
        self.assertIsNone(check_jobs(()))
        for many in range(1, 5):
            self.assertIsNone(check_jobs(FOUR[:many]))
        self.assertIsNone(check_jobs(jobs_with(*[("at", k) for k in range(12)])))

    def test_valid_names(self):
        for name in ("a", "z", "m", "az", "za", "abcdefg", "abcdefgh", "zzzzzzzz", "at", "after", "entry"):
            self.assertIsNone(check_jobs(((name, ("at", 0), 0),)))
        for letter in "abcdefghijklmnopqrstuvwxyz":
            self.assertIsNone(check_jobs(((letter, ("at", 0), 0), ("a" + letter, ("at", 0), 0))))

    def test_valid_numbers(self):
        for moment, entry in product((0, 1, 2, 9, 10, 10 ** 30, 10 ** 31 - 1), range(10)):
            self.assertIsNone(check_jobs((("a", ("at", moment), entry), ("b", ("after", 1), entry))))

    def test_arguments_by_name(self):
        self.assertIsNone(check_jobs(jobs=FOUR))
        self.check_fault(NoJobs, "place", 1, check_jobs, jobs=(FOUR[0], FOUR[0]))
        self.check_same(arrived(jobs=FOUR, moment=10 ** 30, finished=1), 3)
        self.check_same(arrived(finished=2, jobs=FOUR, moment=5), 3)

    def test_example(self):
        jobs = (("a", ("at", 0), 0), ("b", ("after", 2), 0))
        self.check_fault(NoJobs, "place", 1, check_jobs, jobs)

    def test_invalid_name(self):
        for name in NO_NAMES:
            self.check_at_each_place((name, ("at", 0), 0))

    def test_invalid_arrival(self):
        for arrival in NO_ARRIVALS:
            self.check_at_each_place(("x", arrival, 0))

    def test_invalid_entry(self):
        for entry in NO_ENTRIES:
            self.check_at_each_place(("x", ("at", 0), entry))
            self.check_no_jobs((FOUR[0], ("x", ("after", 1), entry)), 1)

    def test_invalid_form_of_a_job(self):
        for job in NO_FORMS:
            self.check_at_each_place(job)

    def test_jobs_are_no_tuple(self):
        for jobs in (None, True, False, 0, 1, "", "a", "abc", [], list(FOUR), [FOUR[0]], [FOUR]):
            self.check_no_jobs(jobs, 0)

    def test_name_of_an_earlier_job(self):
        at_once = jobs_with(*[("at", 0)] * 12)
        for first, second in product(range(12), range(12)):
            if first < second:
                again = (NAMES[first], ("at", 5), 2)
                self.check_no_jobs(with_item(at_once, second, again), second)

    def test_name_of_two_earlier_jobs(self):
        self.check_no_jobs((FOUR[0], FOUR[0], FOUR[0]), 1)
        self.check_no_jobs((FOUR[0], FOUR[1], FOUR[1], FOUR[0]), 2)

    def test_first_of_two_invalid_jobs(self):
        wrong = (
            ("", ("at", 0), 0), ("x", ("at", -1), 0), ("x", ("after", 0), 0), ("x", ("at", 0), 10), None,
            ["x", ("at", 0), 0], ("x", ("at", 0)),
        )
        for first, second in product(range(4), range(4)):
            for one, other in product(wrong, wrong):
                if first < second:
                    self.check_no_jobs(with_item(with_item(FOUR, first, one), second, other), first)

    def test_earlier_name_and_invalid_job(self):
        self.check_no_jobs((FOUR[0], FOUR[0], None), 1)
        self.check_no_jobs((FOUR[0], None, FOUR[0]), 1)
        self.check_no_jobs((FOUR[0], ("a", ("at", 0), 10), FOUR[0]), 1)

    def test_no_other_error_than_no_jobs(self):
        for odd in [odd for odd in ODD_VALUES if odd != ()]:
            self.check_no_jobs(odd, 0)
        for odd in ODD_VALUES:
            self.check_at_each_place(odd)
            if odd not in ("a", "abc", "at", "after", "queue", "stack"):
                self.check_at_each_place((odd, ("at", 0), 0))
            if odd != ("at", 0):
                self.check_at_each_place(("x", odd, 0))
            if odd not in ("at", "after"):
                self.check_at_each_place(("x", (odd, 1), 0))
            if isinstance(odd, bool) or odd not in (0, 1, 10, 10 ** 30):
                self.check_at_each_place(("x", ("at", odd), 0))
            if isinstance(odd, bool) or odd not in (0, 1):
                self.check_at_each_place(("x", ("at", 0), odd))


class WaitingTest(Checks):

    def check_waiting(self, place, *arrivals):
        self.check_fault(NoJobs, "place", place, check_jobs, jobs_with(*arrivals))
        self.check_fault(NoJobs, "place", place, arrived, jobs_with(*arrivals), 0, 0)

    def check_nobody_waits(self, *arrivals):
        self.assertIsNone(check_jobs(jobs_with(*arrivals)))

    def test_a_job_waits_for_itself(self):
        self.check_waiting(0, ("after", 1))
        self.check_waiting(1, ("at", 0), ("after", 2))
        self.check_waiting(0, ("after", 2), ("at", 0))
        self.check_waiting(2, ("at", 0), ("at", 10 ** 30), ("after", 3))

    def test_jobs_wait_for_one_another(self):
        self.check_waiting(0, ("after", 1), ("after", 1))
        self.check_waiting(0, ("after", 1), ("after", 2))
        self.check_waiting(0, ("after", 2), ("after", 1))
        self.check_waiting(1, ("at", 0), ("after", 2), ("after", 2))
        self.check_waiting(0, ("after", 2), ("at", 0), ("after", 3))
        self.check_waiting(1, ("at", 0), ("after", 3), ("after", 2))

    def test_more_finishes_than_there_can_be(self):
        self.check_waiting(0, ("after", 10 ** 30))
        self.check_waiting(2, ("at", 0), ("at", 0), ("after", 4))
        self.check_waiting(1, ("at", 0), ("after", 10 ** 30), ("at", 0))
        self.check_waiting(11, *[("at", 0)] * 11, ("after", 12))

    def test_as_many_jobs_ahead_as_finishes(self):
        self.check_nobody_waits(("at", 0), ("after", 1))
        self.check_nobody_waits(("at", 0), ("at", 0), ("after", 2))
        self.check_nobody_waits(("at", 0), ("at", 0), ("at", 0), ("after", 2))
        self.check_nobody_waits(*[("at", 0)] * 11, ("after", 11))
        self.check_nobody_waits(("at", 0), ("after", 1), ("after", 1), ("after", 1))
        self.check_nobody_waits(("after", 3), ("after", 1), ("at", 7), ("after", 1))
        self.check_nobody_waits(("after", 4), ("after", 1), ("at", 7), ("after", 1), ("after", 3))

    def test_chains_in_each_order(self):
        chains = (
            (("at", 0), ("after", 1), ("after", 2), ("after", 3), ("after", 4)),
            (("at", 9), ("after", 1), ("after", 1), ("after", 3), ("after", 3)),
            (("at", 0), ("at", 10 ** 30), ("after", 2), ("after", 2), ("after", 4)),
        )
        for chain in chains:
            for arrivals in permutations(chain):
                self.check_nobody_waits(*arrivals)

    def test_long_chain(self):
        chain = (("at", 0), *[("after", k) for k in range(1, 12)])
        self.check_nobody_waits(*chain)
        self.check_nobody_waits(*chain[::-1])
        self.check_waiting(3, *chain[:3], *chain[4:])

    def test_broken_chain_in_each_order(self):
        # Both jobs after 3 and after 4 find too few jobs ahead of them.
        for arrivals in permutations((("at", 0), ("after", 1), ("after", 3), ("after", 4))):
            late = [k for k, arrival in enumerate(arrivals) if arrival[1] > 2]
            self.check_waiting(late[0], *arrivals)

    def test_only_the_count_of_point_5_decides(self):
        # Three jobs arrive after fewer than 3 finishes, so the job after 3 is not at fault.
        for arrivals in permutations((("at", 0), ("after", 3), ("after", 2), ("after", 2))):
            self.check_waiting(arrivals.index(("after", 2)), *arrivals)

    def test_arrivals_at_any_moment_count(self):
        for moment in (0, 1, 2, 3, 10 ** 30):
            self.check_nobody_waits(("after", 1), ("at", moment))
            self.check_nobody_waits(("after", 2), ("at", moment), ("at", moment))
            self.check_waiting(0, ("after", 2), ("at", moment))

    def test_invalid_job_goes_before_a_waiting_one(self):
        waiting = ("x", ("after", 9), 0)
        wrong = (
            ("", ("at", 0), 0), ("y", ("at", True), 0), ("y", ("after", 0), 0), ("y", ("at", 0), -1),
            ["y", ("at", 0), 0], ("y", ("at", 0)), None,
        )
        for job in wrong:
            self.check_fault(NoJobs, "place", 1, check_jobs, (waiting, job))
            self.check_fault(NoJobs, "place", 0, check_jobs, (job, waiting))
            self.check_fault(NoJobs, "place", 4, check_jobs, (waiting, *FOUR[:3], job))

    def test_earlier_name_goes_before_a_waiting_job(self):
        waiting = ("x", ("after", 9), 0)
        self.check_fault(NoJobs, "place", 1, check_jobs, (waiting, waiting))
        self.check_fault(NoJobs, "place", 1, check_jobs, (waiting, ("x", ("at", 0), 0)))
        self.check_fault(NoJobs, "place", 3, check_jobs, (waiting, FOUR[0], FOUR[2], FOUR[0]))


class ArrivedTest(Checks):

    def test_no_jobs(self):
        for moment, finished in product((0, 1, 10 ** 30), (0, 1, 10 ** 30)):
            self.check_same(arrived((), moment, finished), 0)

    def test_around_the_moments(self):
        jobs = jobs_with(("at", 0), ("at", 3), ("at", 3), ("at", 10 ** 30))
        counts = {
            0: 1, 1: 1, 2: 1, 3: 3, 4: 3, 10 ** 30 - 1: 3, 10 ** 30: 4, 10 ** 30 + 1: 4,
        }
        for moment, expected in counts.items():
            for finished in (0, 1, 4):
                self.check_same(arrived(jobs, moment, finished), expected)

    def test_around_the_finishes(self):
        jobs = jobs_with(("at", 7), ("after", 1), ("after", 1), ("after", 3))
        for finished, expected in ((0, 0), (1, 2), (2, 2), (3, 3), (4, 3), (10 ** 30, 3)):
            self.check_same(arrived(jobs, 6, finished), expected)
            self.check_same(arrived(jobs, 7, finished), expected + 1)
            self.check_same(arrived(jobs, 8, finished), expected + 1)

    def test_moments_and_finishes_are_not_mixed_up(self):
        jobs = jobs_with(("at", 0), ("at", 2), ("after", 1), ("after", 2), ("at", 5), ("after", 5))
        for moment, finished in product(range(8), range(8)):
            at_moments = sum(1 for k in (0, 2, 5) if k <= moment)
            after_finishes = sum(1 for k in (1, 2, 5) if k <= finished)
            self.check_same(arrived(jobs, moment, finished), at_moments + after_finishes)

    def test_large_numbers(self):
        jobs = jobs_with(("at", 10 ** 30), ("after", 1), ("at", 10 ** 30 - 1))
        self.check_same(arrived(jobs, 10 ** 30 - 2, 0), 0)
        self.check_same(arrived(jobs, 10 ** 30 - 1, 0), 1)
        self.check_same(arrived(jobs, 10 ** 30, 0), 2)
        self.check_same(arrived(jobs, 10 ** 30, 10 ** 30), 3)
        self.check_same(arrived(jobs, 0, 10 ** 30), 1)

    def test_order_of_the_jobs_and_entries_do_not_matter(self):
        for jobs in permutations(FOUR):
            self.check_same(arrived(jobs, 0, 0), 1)
            self.check_same(arrived(jobs, 0, 1), 2)
            self.check_same(arrived(jobs, 10 ** 30, 1), 3)
            self.check_same(arrived(jobs, 10 ** 30, 2), 4)

    def test_invalid_jobs(self):
        for moment, finished in product((0, 10 ** 30), (0, 10 ** 30)):
            self.check_fault(NoJobs, "place", 0, arrived, [FOUR[0]], moment, finished)
            self.check_fault(NoJobs, "place", 1, arrived, (FOUR[0], FOUR[0]), moment, finished)
            self.check_fault(NoJobs, "place", 1, arrived, jobs_with(("at", 0), ("after", 2)), moment, finished)

    def test_equal_calls_give_equal_results(self):
        for _ in range(3):
            self.check_same(arrived(FOUR, 0, 2), 3)
            self.check_same(arrived(FOUR[:2], 0, 2), 2)
            self.assertIsNone(check_jobs(FOUR))
            self.check_fault(NoJobs, "place", 0, check_jobs, FOUR[3:])


if __name__ == "__main__":
    unittest.main()
