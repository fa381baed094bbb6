"""Jobs: names, arrivals and entries."""

from blindslots.errors import NoJobs
from blindslots.kinds import is_integer, is_name, is_tuple_of


def check_jobs(jobs):
    """Raise NoJobs with the place of the first fault; return None for valid jobs."""
    if not isinstance(jobs, tuple):
        raise NoJobs(0)
    check_each_job(jobs)
    # Only now: an invalid job goes before one that waits forever, wherever it stands.
    for place, job in enumerate(jobs):
        if waits_forever(job, jobs):
            raise NoJobs(place)


def arrived(jobs, moment, finished):
    """Return how many jobs have arrived by the moment, with so many jobs finished."""
    check_jobs(jobs)
    return count_arrived(jobs, moment, finished)


def count_arrived(jobs, moment, finished):
    """Return how many of these valid jobs have arrived by the moment."""
    return len([job for job in jobs if has_arrived(job, moment, finished)])


def has_arrived(job, moment, finished):
    """Tell whether a valid job has arrived by the moment."""
    kind, number = job[1]
    return number <= (moment if kind == "at" else finished)


def check_each_job(jobs):
    """Raise NoJobs for the first job that is invalid by itself or has an earlier name."""
    names = []
    for place, job in enumerate(jobs):
        if not is_job(job) or job[0] in names:
            raise NoJobs(place)
        names.append(job[0])


def is_job(job):
    """Tell whether the value is a job that is valid by itself."""
    if not is_tuple_of(job, 3):
        return False
    name, arrival, entry = job
    return is_name(name) and is_arrival(arrival) and is_integer(entry, 0) and entry <= 9


def is_arrival(arrival):
    """Tell whether the value is a valid arrival."""
    if not is_tuple_of(arrival, 2):
        return False
    kind, number = arrival
    if kind == "at":
        return is_integer(number, 0)
    return kind == "after" and is_integer(number, 1)


def waits_forever(job, jobs):
    """Tell whether too few jobs can arrive ahead of this one to let it arrive."""
    kind, number = job[1]
    if kind == "at":
        return False
    arrivals = [other[1] for other in jobs]
    ahead = [other for other in arrivals if other[0] == "at" or other[1] < number]
    return len(ahead) < number
