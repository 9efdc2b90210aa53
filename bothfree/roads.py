"""Roads: one-way steps from place to place, where a lot of doors is free if all of them get unlike roads to gates."""

from bothfree.checks import check_lot, first_wrong, sorted_places
from bothfree.errors import BadDoors, BadGates, BadSteps
from bothfree.families import Family
from bothfree.hires import Hires, hire_most, hires_family
from bothfree.rules import Chart, PartRule, TurnedRule

MOST_ROAD_PLACES = 24


class Roads:
    """Places and the one-way steps between them; some places are doors, some are gates."""

    def __init__(self, places, steps, doors, gates):
        self._places = sorted_places(places, MOST_ROAD_PLACES)
        self._steps = _checked_steps(steps, self._places)
        wrong = _wrong_place(doors, self._places)
        if wrong is not None:
            raise BadDoors(wrong)
        wrong = _wrong_place(gates, self._places)
        if wrong is not None:
            raise BadGates(wrong)
        self._doors = sorted(doors)
        self._gates = sorted(gates)

    def places(self):
        """Return the sorted list of the places."""
        return list(self._places)

    def steps(self):
        """Return the sorted list of the steps."""
        return list(self._steps)

    def doors(self):
        """Return the sorted list of the doors."""
        return list(self._doors)

    def gates(self):
        """Return the sorted list of the gates."""
        return list(self._gates)

    def __eq__(self, other):
        if not isinstance(other, Roads) or self._places != other._places or self._steps != other._steps:
            return False
        return self._doors == other._doors and self._gates == other._gates


def _checked_steps(steps, places):
    """Return the sorted steps; raise BadSteps if they cannot be steps between these places."""
    wrong = first_wrong(steps, lambda step: step[0] in places and step[1] in places and step[0] != step[1])
    if wrong is not None:
        raise BadSteps(wrong)
    return sorted(steps)


def _wrong_place(entries, places):
    """Return the index of the first entry that is no place or equals an earlier one, or None."""
    return first_wrong(entries, lambda entry: entry in places)


def roads_family(roads):
    """Return the family of the doors, in which those lots are free whose doors can have unlike roads."""
    places = hires_family(turned_hires(roads))
    chart = Chart([(own, roads.places().index(door)) for own, door in enumerate(roads.doors())])
    rule = PartRule(Family(roads.places(), TurnedRule(places)), chart, len(roads.doors()), 0)
    return Family(roads.doors(), rule)


def ways(roads, lot):
    """Return a dict from the doors of a lot to roads without a common place, or None."""
    given, _ = ways_most(roads, lot)
    return given if len(given) == len(lot) else None


def cut_places(roads, lot):
    """Return fewer places than the lot has doors, of which each road of its doors contains one, or None."""
    _, places = ways_most(roads, lot)
    return places if len(places) < len(lot) else None


def ways_most(roads, lot):
    """Return roads of as many doors of a lot as can have them, and as many places that show that no more can."""
    check_lot(lot, roads.doors())
    turned = turned_hires(roads)
    part = roads_family(roads).gathered(sorted(lot))
    return _roads_of(turned, part), _cut_of(turned, roads.gates(), lot)


def _roads_of(turned, part):
    """Return the roads of the doors of a free lot."""
    jobs, _ = hire_most(turned, [place for place in turned.people() if place not in part])
    # The places outside of the lot have all jobs; a road goes on to the place that has its last place as the job.
    behind = {jobs[place]: place for place in jobs}
    given = {}
    for door in part:
        road = [door]
        while road[-1] in behind:
            road.append(behind[road[-1]])
        given[door] = road
    return given


def _cut_of(turned, gates, lot):
    """Return as few places as possible of which each road of the doors of a lot contains one."""
    _, people = hire_most(turned, [place for place in turned.people() if place not in lot])
    jobs = [job for person in people for job in turned.jobs_of(person)]
    # From a door on, no step leads to one of these people before the road comes to a gate or to one of their jobs:
    # a place from which a step leads to one of them is one of their jobs.
    return [place for place in turned.people() if place not in people and (place in gates or place in jobs)]


def turned_hires(roads):
    """Return the hires whose family is the turned one of the roads if all places are doors."""
    gates = roads.gates()
    jobs = {place: [] if place in gates else [place] for place in roads.places()}
    for ahead, place in roads.steps():
        if ahead not in gates:
            jobs[place].append(ahead)
    return Hires(roads.places(), jobs)
