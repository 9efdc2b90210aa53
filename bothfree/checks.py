"""What many functions ask of their arguments: names, integers, lots, weights and numbers."""

from bothfree.errors import BadLot, BadNumber, BadPlaces, BadThings, BadWeights

LONGEST_NAME = 8
MOST_THINGS = 24


def is_integer(value):
    """Tell whether a value of any kind is an integer."""
    return isinstance(value, int) and not isinstance(value, bool)


def is_name(value):
    """Tell whether a value of any kind is a name."""
    if not isinstance(value, str) or not 1 <= len(value) <= LONGEST_NAME:
        return False
    return all(["a" <= letter <= "z" for letter in value])


def first_wrong(entries, fits):
    """Return the first index whose entry does not fit or equals an earlier one, or None.

    What fits must be a string, an integer or a tuple of such.
    """
    seen = set()
    for at, entry in enumerate(entries):
        # Asked first, because what does not fit may be a value that no set can hold.
        if not fits(entry) or entry in seen:
            return at
        seen.add(entry)
    return None


def sorted_things(things, most):
    """Return the sorted list of things; raise BadThings unless they are different names, and no more than most."""
    wrong = -1 if len(things) > most else first_wrong(things, is_name)
    if wrong is not None:
        raise BadThings(wrong)
    return sorted(things)


def sorted_places(places, most):
    """Return the sorted list of places; raise BadPlaces unless they are different names, from one to most."""
    wrong = first_wrong(places, is_name) if 1 <= len(places) <= most else -1
    if wrong is not None:
        raise BadPlaces(wrong)
    return sorted(places)


def check_lot(lot, things):
    """Raise BadLot unless a list of strings is a lot of these things."""
    at = first_wrong(lot, lambda entry: entry in things)
    if at is not None:
        raise BadLot(at)


def is_lot(value, things):
    """Tell whether a value of any kind is a lot of these things."""
    if not isinstance(value, list):
        return False
    return first_wrong(value, lambda entry: isinstance(entry, str) and entry in things) is None


def is_strings(value):
    """Tell whether a value of any kind is a list of strings."""
    return isinstance(value, list) and all([isinstance(entry, str) for entry in value])


def check_weights(weights, things):
    """Raise BadWeights unless the weights give each of these things, and nothing else, an integer."""
    for thing in sorted(set(weights) | set(things)):
        if thing not in things or thing not in weights or not is_integer(weights[thing]):
            raise BadWeights(thing)


def check_number(number):
    """Raise BadNumber unless a value of any kind is an integer from 0 on."""
    if not is_integer(number) or number < 0:
        raise BadNumber(number)
