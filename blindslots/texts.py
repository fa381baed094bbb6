"""The text forms of jobs and rules."""

from blindslots.errors import NoText
from blindslots.jobs import check_jobs, is_job
from blindslots.rules import MOST_LEVELS, check_rule

MOST_DIGITS = 31


def show_jobs(jobs):
    """Return the written form of the jobs, one job a line."""
    check_jobs(jobs)
    return "\n".join([show_job(job) for job in jobs])


def show_job(job):
    """Return the line of one job."""
    name, (kind, number), entry = job
    line = f"{name} {kind} {number}"
    return f"{line} entry {entry}" if entry > 0 else line


def show_rule(rule):
    """Return the written form of the rule, one level a line, the boost last."""
    check_rule(rule)
    levels, boost = rule
    lines = [show_count(kind, quantum) for kind, quantum in levels]
    if boost is not None:
        lines.append(show_count("boost", boost))
    return "\n".join(lines)


def show_count(word, number):
    """Return the word, with the number behind it if there is one."""
    return word if number is None else f"{word} {number}"


def read_jobs(text):
    """Return the jobs that the text writes."""
    # Splitting the empty string gives one line, but it writes no jobs.
    lines = text.split("\n") if text else []
    jobs = []
    for row, line in enumerate(lines):
        job = read_job(line)
        if job is None:
            raise NoText(row)
        jobs.append(job)
    check_jobs(tuple(jobs))
    return tuple(jobs)


def read_job(line):
    """Return the job that the line writes, or None if it is not of the form."""
    words = line.split(" ")
    if len(words) < 3:
        return None
    job = (words[0], (words[1], read_number(words[2])), read_entry(words[3:]))
    return job if is_job(job) else None


def read_entry(words):
    """Return the entry that the words behind an arrival write, or None."""
    if not words:
        return 0
    # The entry 0 is not written, so it is not of the form where it is.
    return read_count(words[1:]) if words[0] == "entry" else None


def read_rule(text):
    """Return the rule that the text writes."""
    levels = []
    boost = None
    for row, line in enumerate(text.split("\n")):
        if boost is not None:
            raise NoText(row)
        # A rule has at least one level, so its first line is no boost.
        if row > 0:
            boost = read_boost(line)
        if boost is None:
            levels.append(read_level(line, row))
    return (tuple(levels), boost)


def read_boost(line):
    """Return the boost that the line writes, or None if it writes none."""
    words = line.split(" ")
    return read_count(words[1:]) if words[0] == "boost" else None


def read_level(line, row):
    """Return the level with this index that the line writes."""
    words = line.split(" ")
    quantum = read_count(words[1:])
    if row >= MOST_LEVELS or words[0] not in ("queue", "stack"):
        raise NoText(row)
    if quantum is None and len(words) > 1:
        raise NoText(row)
    return (words[0], quantum)


def read_count(words):
    """Return the number from 1 on that the words write, or None if they write none."""
    if len(words) != 1:
        return None
    number = read_number(words[0])
    return None if number == 0 else number


def read_number(word):
    """Return the number from 0 on that the word writes, or None if it writes none."""
    if not 1 <= len(word) <= MOST_DIGITS:
        return None
    if not all("0" <= digit <= "9" for digit in word):
        return None
    return int(word) if word == "0" or word[0] != "0" else None
