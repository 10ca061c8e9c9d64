"""Bounds of differences: integers that keep them all, rings that no integers keep, and least ways."""

from wobblesnap.errors import BadBounds, BadTerm, Contrary
from wobblesnap.forms import is_integer, is_name

ZERO = "0"


def settled(bounds):
    """("values", values) that keep all bounds, or ("ring", ring) with a sum below 0."""
    check_bounds(bounds)
    values, ring = values_or_ring(bounds)
    if ring is not None:
        return "ring", ring
    return "values", values


def shows_settled(bounds, value):
    """Whether any value is a right answer of settled for these bounds."""
    check_bounds(bounds)
    if not isinstance(value, tuple) or len(value) != 2:
        return False
    kind, found = value
    if kind == "values":
        return are_values(bounds, found)
    known = {bound: True for bound in bounds}
    return kind == "ring" and is_ring_below_zero(found) and all([step in known for step in found])


def least_way(bounds, one, other):
    """(sum, way) with the least sum of all ways from one to other, or None if there is no way."""
    check_bounds(bounds)
    if not is_term(one):
        raise BadTerm(one)
    if not is_term(other) or other == one:
        raise BadTerm(other)
    if values_or_ring(bounds)[1] is not None:
        raise Contrary(bounds)
    sums, firsts, _ = least_sums(bounds, {other: 0})
    if one not in sums:
        return None
    return sums[one], way_along(firsts, one, other)


def check_bounds(value):
    """Refuse any value that is no bounds."""
    if not isinstance(value, tuple) or not all([is_bound(bound) for bound in value]):
        raise BadBounds(value)


def is_bound(value):
    """Whether any value is a bound."""
    if not isinstance(value, tuple) or len(value) != 3:
        return False
    one, other, most = value
    return is_term(one) and is_term(other) and one != other and is_integer(most)


def is_term(value):
    """Whether any value is a term."""
    return isinstance(value, str) and (value == ZERO or is_name(value.removesuffix("!")))


def terms_of(bounds):
    """The ascending list of all terms in the bounds, and "0"."""
    return sorted(set([ZERO] + [term for bound in bounds for term in bound[:2]]))


def values_or_ring(bounds):
    """(values, None) or (None, ring), for what are bounds."""
    terms = terms_of(bounds)
    sums, firsts, lowered = least_sums(bounds, {term: 0 for term in terms})
    if lowered is not None:
        return None, ring_behind(firsts, lowered, len(terms))
    # All values may be moved alike: the one of "0" has to be 0.
    return tuple([(term, sums[term] - sums[ZERO]) for term in terms]), None


def least_sums(bounds, ends):
    """The least sums of the ways from each term to the ends, what ends[end] tells being added.

    Returned are a dict of the sums (for terms from which such a way leads), a dict of the first bound of
    each least way, and None; or, in place of None, a term from which there is no least way, because
    of a ring with a sum below 0.
    """
    sums = dict(ends)
    firsts = {}
    lowered = None
    # A way without a ring has fewer bounds than there are terms: so there is such a ring if even
    # the last one of as many rounds finds something less.
    for _ in terms_of(bounds):
        lowered = lower_once(bounds, sums, firsts)
        if lowered is None:
            break
    return sums, firsts, lowered


def lower_once(bounds, sums, firsts):
    """Put each bound ahead of the way behind it where this is less; the last term that got less, or None."""
    lowered = None
    for bound in bounds:
        one, other, most = bound
        if other in sums and (one not in sums or sums[other] + most < sums[one]):
            sums[one] = sums[other] + most
            firsts[one] = bound
            lowered = one
    return lowered


def ring_behind(firsts, term, steps):
    """The ring into which the first bounds lead from a term, at the latest behind so many steps."""
    for _ in range(steps):
        term = firsts[term][1]
    first = firsts[term]
    return (first,) + way_along(firsts, first[1], term)


def way_along(firsts, one, other):
    """The way from one to other, each step of it by the first bound of the least way from there."""
    way = []
    while one != other:
        way.append(firsts[one])
        one = firsts[one][1]
    return tuple(way)


def are_values(bounds, value):
    """Whether any value is the ascending tuple of (term, value) by which all bounds are kept."""
    if not isinstance(value, tuple) or not all([is_worth(pair) for pair in value]):
        return False
    if [pair[0] for pair in value] != terms_of(bounds):
        return False
    worth = dict(value)
    return worth[ZERO] == 0 and all([worth[one] - worth[other] <= most for one, other, most in bounds])


def is_worth(value):
    """Whether any value is a string and an integer."""
    return isinstance(value, tuple) and len(value) == 2 and isinstance(value[0], str) and is_integer(value[1])


def is_ring_below_zero(value):
    """Whether any value is a ring of some bounds with a sum below 0."""
    if not isinstance(value, tuple) or len(value) == 0 or not all([is_bound(step) for step in value]):
        return False
    return is_closed(value) and sum([step[2] for step in value]) < 0


def is_closed(steps):
    """Whether each of these bounds leads to the next one, and the last one back to the first one."""
    return all([step[1] == behind[0] for step, behind in zip(steps, steps[1:] + steps[:1])])
