"""Questions within other ones, on all stores that keep a ban."""

from backasked.answers import head_with
from backasked.errors import LimitExceeded
from backasked.matching import hit_on
from backasked.questions import known_by
from backasked.ways import facts_of, ways_by_part


def compared(first, second, ban, tries):
    """The pair (parting, hits) of a comparison, one of the two being None; raise LimitExceeded."""
    ways = ways_by_part(first, known_by((first, second, ban)), tries)
    if ways is None:
        raise LimitExceeded(tries)
    hits = []
    for index, part in enumerate(first[1]):
        of_part = []
        for values in ways[index]:
            hit = hit_on(facts_of(part, values), head_with(part, values), second, ban)
            if hit is None:
                return ((index, values), None)
            of_part.append(hit)
        hits.append(tuple(of_part))
    return (None, tuple(hits))


def parting(first, second, ban, *, tries=300):
    """None if a question is within another one under a ban, else the first (index, values) of a way that parts them."""
    return compared(first, second, ban, tries)[0]


def is_within(first, second, ban, *, tries=300):
    """Whether a question is within another one under a ban."""
    return parting(first, second, ban, tries=tries) is None


def are_alike(one, other, ban, *, tries=300):
    """Whether each of two questions is within the other one under a ban."""
    return is_within(one, other, ban, tries=tries) and is_within(other, one, ban, tries=tries)
