"""Houses in groups that grow together line by line."""


class Groups:
    """At first each house is a group of its own."""

    def __init__(self, houses):
        self._heads = {house: house for house in houses}

    def together(self, a, b):
        """True if two houses are in one group."""
        return self._heads[a] == self._heads[b]

    def unite(self, a, b):
        """Make one group of those of two houses; False if they were one already."""
        kept = self._heads[a]
        gone = self._heads[b]
        for house in list(self._heads):
            if self._heads[house] == gone:
                self._heads[house] = kept
        return kept != gone
