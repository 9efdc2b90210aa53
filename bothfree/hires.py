"""Hires: people and their jobs, where a lot of people is free if all of them get unlike jobs."""

from bothfree.checks import check_lot, first_wrong, is_name, sorted_things
from bothfree.errors import BadJobs, NoThing, TooMany
from bothfree.families import Family
from bothfree.masks import bits_of, outer_bits
from bothfree.seats import Seats

MOST_PEOPLE = 24
MOST_JOBS = 24


class Hires:
    """People and the jobs that each of them can do."""

    def __init__(self, people, jobs):
        self._people = sorted_things(people, MOST_PEOPLE)
        self._jobs = _checked_jobs(jobs, self._people)

    def people(self):
        """Return the sorted list of the people."""
        return list(self._people)

    def jobs_of(self, person):
        """Return the sorted list of the jobs of a person."""
        if person not in self._jobs:
            raise NoThing(person)
        return list(self._jobs[person])

    def __eq__(self, other):
        return isinstance(other, Hires) and self._people == other._people and self._jobs == other._jobs


def _checked_jobs(jobs, people):
    """Return the dict from each person to the sorted jobs; raise BadJobs if they cannot be those of a hires."""
    checked = {}
    for person in sorted(set(jobs) | set(people)):
        if person not in people or person not in jobs or len(jobs[person]) > MOST_JOBS:
            raise BadJobs(person)
        if first_wrong(jobs[person], is_name) is not None:
            raise BadJobs(person)
        checked[person] = sorted(jobs[person])
    return checked


def _jobs_of_all(hires, people):
    """Return the sorted list of the jobs that at least one of some people can do."""
    return sorted({job for person in people for job in hires.jobs_of(person)})


def _job_masks(hires, people, jobs):
    """Return, for each of some people, the mask of the own jobs among all these jobs."""
    bits = {job: 1 << at for at, job in enumerate(jobs)}
    return [sum([bits[job] for job in hires.jobs_of(person)]) for person in people]


class HiresRule:
    """The rule of the family of a hires."""

    def __init__(self, masks):
        self._masks = masks

    def rank_of(self, mask):
        """Return the number of people of a mask who can be seated."""
        return len(self._seated(mask).given())

    def rings_over(self, mask):
        """Return the rings that the people make with a free mask, 0 for those who make none."""
        seats = self._seated(mask)
        rings = [0] * len(self._masks)
        for person in outer_bits(mask, len(rings)):
            rings[person] = sum([1 << other for other in seats.crowd(person)])
        return rings

    def _seated(self, mask):
        """Return the seats of as many people of a mask as can be seated."""
        seats = Seats(self._masks)
        for person in bits_of(mask):
            seats.seat(person)
        return seats


def hires_family(hires):
    """Return the family of the people, in which those lots are free that can be hired."""
    people = hires.people()
    return Family(people, HiresRule(_job_masks(hires, people, _jobs_of_all(hires, people))))


def hire(hires, lot):
    """Return a dict from the people of a lot to unlike jobs, or None."""
    given, unseated, _ = _hired(hires, lot)
    return None if unseated else given


def short(hires, lot):
    """Return people of a lot with fewer jobs than they are, and these jobs, or None."""
    _, unseated, seats = _hired(hires, lot)
    if not unseated:
        return None
    people = _told(seats.reached(unseated[:1]), lot)
    return people, _jobs_of_all(hires, people)


def hire_most(hires, lot):
    """Return a dict from as many people of a lot as can be hired to jobs, and people who show that no more can."""
    given, unseated, seats = _hired(hires, lot)
    return given, _told(seats.reached(unseated), lot)


def _hired(hires, lot):
    """Seat the people of a lot in ascending order.

    Return the dict from names to jobs, and the indexes of those who cannot be seated, and the
    seats; the indexes are those of the sorted lot.
    """
    check_lot(lot, hires.people())
    people = sorted(lot)
    jobs = _jobs_of_all(hires, people)
    seats = Seats(_job_masks(hires, people, jobs))
    unseated = []
    for index in range(len(people)):
        if not seats.seat(index):
            unseated.append(index)
    given = seats.given()
    return {people[index]: jobs[given[index]] for index in given}, unseated, seats


def _told(indexes, lot):
    """Return the sorted people who stand at these indexes of the sorted lot."""
    people = sorted(lot)
    return [people[index] for index in sorted(indexes)]


def other_side(hires):
    """Return the hires in which people and jobs have changed sides."""
    people = hires.people()
    jobs = _jobs_of_all(hires, people)
    if len(jobs) > MOST_JOBS:
        raise TooMany(MOST_JOBS)
    return Hires(jobs, {job: [person for person in people if job in hires.jobs_of(person)] for job in jobs})
