"""The least sums of the ways between all terms, kept up as bounds are put to the others."""


class Ways:
    """Which bounds are told by those that were put, and whether a ring of them has a sum below 0.

    From then on that there is such a ring, nothing is told any more.
    """

    def __init__(self):
        # rows[one][other] is the least sum of all ways, if there is one; that to the term itself is 0.
        self.rows = {}
        self.contrary = False

    def tells(self, one, other, most):
        """Whether some way from the one term to the other one has a sum of at most so much."""
        least = self.least(one, other)
        return least is not None and least <= most

    def least(self, one, other):
        """The least sum of all ways from the one term to the other one, or None if there is none."""
        if one not in self.rows:
            return None
        return self.rows[one].get(other)

    def put(self, one, other, most):
        """Put a bound to the others."""
        if self.contrary or self.tells(one, other, most):
            return
        if self.tells(other, one, -most - 1):
            self.contrary = True
            return
        for term in (one, other):
            if term not in self.rows:
                self.rows[term] = {term: 0}
        behind = list(self.rows[other].items())
        for row in list(self.rows.values()):
            # If even the way up to the other term gets no less by this bound, no way beyond it does.
            if one in row and (other not in row or row[one] + most < row[other]):
                lower_all(row, row[one] + most, behind)

    def branched(self):
        """An independent copy."""
        twin = Ways()
        twin.rows = {term: dict(row) for term, row in self.rows.items()}
        twin.contrary = self.contrary
        return twin


def lower_all(row, ahead, behind):
    """Let no sum of a row be above the one ahead and the one behind together."""
    for term, least in behind:
        if term not in row or ahead + least < row[term]:
            row[term] = ahead + least
