"""Questions without their needless parts and conditions, and the weakest guards of programs."""

from backasked.comparing import Target, compared
from backasked.forms import set_of
from backasked.leading import led_back
from backasked.questions import is_bound, known_by


def without(rows, index):
    """A tuple without what stands at an index."""
    return rows[:index] + rows[index + 1:]


def part_without(part, place):
    """A part without one of its conditions, counted on from the atoms to the pairs; None if this is no part."""
    head, body, unlike = part
    if place < len(body):
        fewer = (head, without(body, place), unlike)
    else:
        fewer = (head, body, without(unlike, place - len(body)))
    return fewer if is_bound(fewer) else None


def is_covered(part, target, known, tries):
    """Whether each way of a part has a hit, None being no part at all; raise LimitExceeded."""
    return part is not None and compared((part,), target, known, tries)[0] is None


def is_needless(question, index, place, ban, *, tries=300):
    """Whether a part (place None) or a condition of it is needless under a ban; raise LimitExceeded."""
    arity, parts = question
    known = known_by((question, ban))
    # The other parts are within either question in any case, so only the part, or the changed part, is compared.
    if place is None:
        return is_covered(parts[index], Target((arity, without(parts, index)), ban), known, tries)
    return is_covered(part_without(parts[index], place), Target(question, ban), known, tries)


def needless_place(part, target, known, tries):
    """The first place of a needless condition of a part, or None."""
    _, body, unlike = part
    for place in range(len(body) + len(unlike)):
        if is_covered(part_without(part, place), target, known, tries):
            return place
    return None


def without_conditions(question, ban, tries):
    """A question without its needless conditions, left out one after the other."""
    arity, parts = question
    # No turn changes the answers on the stores that keep the ban: what the question hits at first it hits in each turn.
    target = Target(question, ban)
    known = known_by((question, ban))
    # Nor does a turn make more things known: a part in which nothing was needless is so in each later turn, too, and
    # has no more ways then. So it is not looked at again.
    looked_at = set()
    index = 0
    while index < len(parts):
        part = parts[index]
        place = None if part in looked_at else needless_place(part, target, known, tries)
        if place is None:
            looked_at.add(part)
            index = index + 1
        else:
            parts = set_of([*without(parts, index), part_without(part, place)])
            known = known_by(((arity, parts), ban))
            index = 0
    return (arity, parts)


def without_parts(question, ban, tries):
    """A question without its needless parts, left out one after the other."""
    arity, parts = question
    index = 0
    while index < len(parts):
        # A part that is not needless stays so when others are left out: the search need not begin anew.
        if is_needless((arity, parts), index, None, ban, tries=tries):
            parts = without(parts, index)
        else:
            index = index + 1
    return (arity, parts)


def trimmed(question, ban, *, tries=300):
    """The trimmed question under a ban; raise LimitExceeded."""
    # Leaving out needless parts makes no condition needless: conditions are not looked at again behind the parts.
    return without_parts(without_conditions(question, ban, tries), ban, tries)


def guard(program, other, ban, *, tries=300):
    """The weakest guard of a program for another ban under a ban; raise LimitExceeded."""
    return trimmed(led_back(program, other, tries=tries), ban, tries=tries)
