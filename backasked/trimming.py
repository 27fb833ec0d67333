"""Questions without their needless parts and conditions, and the weakest guards of programs."""

from backasked.comparing import is_within
from backasked.forms import set_of
from backasked.leading import led_back
from backasked.questions import is_bound


def without(rows, index):
    """A tuple without what stands at an index."""
    return rows[:index] + rows[index + 1:]


def part_without(part, place):
    """A part without one of its conditions, counted on from the atoms to the pairs; None if this is no part."""
    head, body, unlike = part
    if place < len(body):
        fewer = (head, without(body, place), unlike)
    else:
        fewer = (head, body, without(unlike, place - len(body)))
    return fewer if is_bound(fewer) else None


def is_needless(question, index, place, ban, *, tries=300):
    """Whether a part (place None) or a condition of it is needless under a ban; raise LimitExceeded."""
    arity, parts = question
    if place is None:
        return is_within((arity, (parts[index],)), (arity, without(parts, index)), ban, tries=tries)
    fewer = part_without(parts[index], place)
    # The other parts are within the question in any case, so only the changed part is compared.
    return fewer is not None and is_within((arity, (fewer,)), question, ban, tries=tries)


def needless_place(question, index, ban, tries):
    """The first place of a needless condition of a part, or None."""
    _, body, unlike = question[1][index]
    for place in range(len(body) + len(unlike)):
        if is_needless(question, index, place, ban, tries=tries):
            return place
    return None


def without_conditions(question, ban, tries):
    """A question without its needless conditions, left out one after the other."""
    arity, parts = question
    # Each turn leaves the answers on the stores that keep the ban, and makes no more things known: a part in which
    # nothing was needless is so in each later turn, too, and has no more ways then. So it is not looked at again.
    looked_at = set()
    index = 0
    while index < len(parts):
        part = parts[index]
        place = None if part in looked_at else needless_place((arity, parts), index, ban, tries)
        if place is None:
            looked_at.add(part)
            index = index + 1
        else:
            parts = set_of([*without(parts, index), part_without(part, place)])
            index = 0
    return (arity, parts)


def without_parts(question, ban, tries):
    """A question without its needless parts, left out one after the other."""
    arity, parts = question
    index = 0
    while index < len(parts):
        # A part that is not needless stays so when others are left out: the search need not begin anew.
        if is_needless((arity, parts), index, None, ban, tries=tries):
            parts = without(parts, index)
        else:
            index = index + 1
    return (arity, parts)


def trimmed(question, ban, *, tries=300):
    """The trimmed question under a ban; raise LimitExceeded."""
    # Leaving out needless parts makes no condition needless: conditions are not looked at again behind the parts.
    return without_parts(without_conditions(question, ban, tries), ban, tries)


def guard(program, other, ban, *, tries=300):
    """The weakest guard of a program for another ban under a ban; raise LimitExceeded."""
    return trimmed(led_back(program, other, tries=tries), ban, tries=tries)
