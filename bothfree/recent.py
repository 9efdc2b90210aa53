"""What was found last, so that what is like it need not be found anew."""

from bothfree.masks import size_of

MOST_KEPT = 32


class Recent:
    """The last few masks about which something was found, with what was found."""

    def __init__(self):
        self._found = []

    def note(self, mask, value):
        """Keep a value that was found for a mask, and forget the oldest one if there are many."""
        self._found = ([(mask, value)] + self._found)[:MOST_KEPT]

    def nearest(self, mask, default):
        """Return the value of the mask that has the most things of a mask, or the default if nothing was kept."""
        best = -1
        for known, value in self._found:
            shared = size_of(known & mask)
            if shared > best:
                best, default = shared, value
        return default
