"""Seating people at jobs, one person at each job and one job for each person."""

from bothfree.masks import bits_of


class Seats:
    """People get jobs one after the other; whoever has a job keeps one, but may change it.

    A person is an index of a list of masks; the mask has the jobs that this person can do.
    """

    def __init__(self, jobs):
        self._jobs = jobs
        self._job_of = {}
        self._person_of = {}
        self._taken = 0

    def seat(self, person):
        """Give a person without a job one; tell whether that could be done."""
        last, came = self._search([person])
        if last is None:
            return False
        spare = self._jobs[last] & ~self._taken
        job = bits_of(spare)[0]
        self._taken |= 1 << job
        while job is not None:
            before = self._job_of.get(last)
            self._job_of[last] = job
            self._person_of[job] = last
            # The job that was given up goes to the person who came by it.
            last = came[before] if before is not None else None
            job = before
        return True

    def given(self):
        """Return the dict from the people who have jobs to these jobs."""
        return dict(self._job_of)

    def crowd(self, person):
        """Return a person without a job and all who could give one up for this person, or none if a job is spare."""
        last, came = self._search([person])
        return [person] + [self._person_of[job] for job in came] if last is None else []

    def reached(self, people):
        """Return people without jobs, and all who are come to by the jobs that these and those can do.

        If none of the first ones can be seated, all jobs of these people are taken by some of them.
        """
        came = self._search(people)[1]
        return people + [self._person_of[job] for job in came]

    def _search(self, people):
        """Look for somebody with a spare job, from some people on by the jobs of others.

        Return this person or None, and a dict from each job on the ways to the person who came by it.
        """
        came = {}
        waiting = list(people)
        seen = 0
        at = 0
        while at < len(waiting):
            fresh = self._jobs[waiting[at]] & ~seen
            if fresh & ~self._taken:
                return waiting[at], came
            for job in bits_of(fresh):
                came[job] = waiting[at]
                waiting.append(self._person_of[job])
            seen |= fresh
            at += 1
        return None, came
