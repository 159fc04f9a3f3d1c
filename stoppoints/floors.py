"""Papers on placings, of any author: what sets and gaps show that anyone has written down.

Sets of candidates are known by their bits, as in placings.
"""

from stoppoints.placings import check_costs, is_new, sets_in_order
from stoppoints.spans import Span, is_size


def floor_by(placings, gaps):
    """The least number of candidates that have a place of each of the gaps, None if these are no paper."""
    found = bits_of_gaps(placings, gaps)
    if found is None:
        return None
    each = sorted(set(found))
    many = len(placings.places())
    # The first one of the sets, by their sizes, is one of the smallest.
    for bits in sets_in_order(many):
        if all([bits & gap != 0 for gap in each]):
            return Span(len([k for k in range(many) if bits >> k & 1]))
    return Span.endless()


def cost_by(placings, costs, shares):
    """The sum of the amounts of the shares, None if these are no paper with such costs."""
    check_costs(costs, len(placings.places()))
    if not isinstance(shares, (list, tuple)) or not all([is_share(share) for share in shares]):
        return None
    gaps = bits_of_gaps(placings, [gap for gap, _ in shares])
    if gaps is None:
        return None
    amounts = [amount for _, amount in shares]
    for k, cost in enumerate(costs):
        if sum([amount for gap, amount in zip(gaps, amounts) if gap >> k & 1]) > cost:
            return None
    return sum(amounts)


def is_share(value):
    """Whether a value is a pair of something and an amount."""
    return isinstance(value, tuple) and len(value) == 2 and is_size(value[1])


def check_least(placings, sets, gaps):
    """Whether these sets are shown by these gaps to be just the least good ones."""
    good = bits_of_good(placings, sets)
    missed = bits_of_gaps(placings, gaps)
    if good is None or missed is None or not is_apart(good):
        return False
    missed = sorted(set(missed))
    for bits in sets_in_order(len(placings.places())):
        has_good = any([bits & one == one for one in good])
        if not has_good and not any([bits & gap == 0 for gap in missed]):
            return False
    return True


def is_apart(good):
    """Whether none of the sets is within another one or stands twice."""
    each = sorted(set(good))
    if len(each) != len(good):
        return False
    return not any([one != other and one & other == one for one in each for other in each])


def bits_of_good(placings, sets):
    """The bits of each of a list or tuple of good sets, None for any other value."""
    found = bits_of_each(placings.places(), sets)
    if found is None or not all([value in placings for value in sets]):
        return None
    return found


def bits_of_gaps(placings, gaps):
    """The bits of each of a list or tuple of gaps, None for any other value."""
    places = placings.places()
    found = bits_of_each(places, gaps)
    if found is None:
        return None
    for bits in sorted(set(found)):
        others = [place for k, place in enumerate(places) if not bits >> k & 1]
        if others in placings:
            return None
    return found


def bits_of_each(places, values):
    """The bits of each of a list or tuple of sets of these candidates, None for any other value."""
    if not isinstance(values, (list, tuple)):
        return None
    found = [bits_of_set(places, value) for value in values]
    return None if None in found else found


def bits_of_set(places, value):
    """The bits of a tuple of candidates in order, each once, None for any other value."""
    if not isinstance(value, tuple):
        return None
    bits = 0
    for index in range(len(value)):
        if not is_new(places, value, index):
            return None
        bit = 1 << places.index(value[index])
        # The bit of a place that stands behind all that are ahead of it is greater than theirs together.
        if bit < bits:
            return None
        bits = bits | bit
    return bits
