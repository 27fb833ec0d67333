"""The ways in which the values of a part can be alike."""

from backasked.answers import body_with
from backasked.forms import set_of
from backasked.questions import variables_of
from backasked.terms import are_unlike


def least_other(things):
    """The least thing that is none of these."""
    least = 0
    while least in things:
        least = least + 1
    return least


def next_values(known, values):
    """The list of what may come after values, ascending: what is known or among them, and the least other thing."""
    there = known + values
    return sorted(set([*there, least_other(there)]))


def ways_after(variables, unlike, known, values):
    """A generator of the ways that begin with values, ascending."""
    if len(values) == len(variables):
        yield values
        return
    for value in next_values(known, values):
        longer = (*values, value)
        # A variable without a value stays itself and is unlike all things, so this looks only at pairs with values.
        # The least other thing is always unlike them: no beginning is without a way.
        if are_unlike(unlike, dict(zip(variables, longer))):
            yield from ways_after(variables, unlike, known, longer)


def ways_of(part, known):
    """A generator of all ways of a part by the known things, ascending."""
    variables = variables_of(part)
    unlike = part[2]
    yield from ways_after(variables, unlike, known, ())


def ways_by_part(parts, known, most):
    """For each of some parts the tuple of its ways; None if there are more than most, all parts together."""
    found = []
    total = 0
    for part in parts:
        of_part = []
        for values in ways_of(part, known):
            # Nothing is looked at behind the limit: a part may have millions of ways.
            total = total + 1
            if total > most:
                return None
            of_part.append(values)
        found.append(tuple(of_part))
    return tuple(found)


def way_like(part, values, known):
    """The only way of a part that is like values whose pairs are unlike."""
    names = {}
    for value in values:
        if value not in known and value not in names:
            names[value] = least_other(known + tuple(names.values()))
    return tuple([names.get(value, value) for value in values])


def facts_of(part, values):
    """The set of the facts of a part's body with values."""
    return set_of(body_with(part, values))
