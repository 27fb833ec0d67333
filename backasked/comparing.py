"""Questions within other ones, on all stores that keep a ban."""

from backasked.answers import head_with
from backasked.errors import LimitExceeded
from backasked.matching import hit_on
from backasked.questions import known_by
from backasked.ways import facts_of, ways_by_part


class Target:
    """What ways have to hit: a second question, or a ban.

    Many ways have the same facts and the same head: a hit is looked for once.
    """

    def __init__(self, second, ban):
        self.second = second
        self.under = ban
        self.found = {}

    def hit(self, part, values):
        """A hit for a way of a part, or None."""
        key = (facts_of(part, values), head_with(part, values))
        if key not in self.found:
            facts, head = key
            self.found[key] = hit_on(facts, head, self.second, self.under)
        return self.found[key]


def compared(parts, target, known, tries):
    """The pair (parting, hits) for the ways of parts, one of the two being None; raise LimitExceeded."""
    ways = ways_by_part(parts, known, tries)
    if ways is None:
        raise LimitExceeded(tries)
    hits = []
    for index, part in enumerate(parts):
        of_part = []
        for values in ways[index]:
            hit = target.hit(part, values)
            if hit is None:
                return ((index, values), None)
            of_part.append(hit)
        hits.append(tuple(of_part))
    return (None, tuple(hits))


def compared_questions(first, second, ban, tries):
    """The pair (parting, hits) for a question and another one; raise LimitExceeded."""
    return compared(first[1], Target(second, ban), known_by((first, second, ban)), tries)


def parting(first, second, ban, *, tries=300):
    """None if a question is within another one under a ban, else the first (index, values) of a way that parts them."""
    return compared_questions(first, second, ban, tries)[0]


def is_within(first, second, ban, *, tries=300):
    """Whether a question is within another one under a ban."""
    return parting(first, second, ban, tries=tries) is None


def are_alike(one, other, ban, *, tries=300):
    """Whether each of two questions is within the other one under a ban."""
    return is_within(one, other, ban, tries=tries) and is_within(other, one, ban, tries=tries)
