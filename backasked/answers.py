"""When a part of a question holds on a store, and which answers the question has there."""

from backasked.forms import set_of
from backasked.joining import Tables, rows_with
from backasked.questions import variables_of
from backasked.stores import are_among
from backasked.terms import are_unlike, atoms_with, put_in


def things_by(part, values):
    """The dict of a part's variables with their values."""
    return dict(zip(variables_of(part), values))


def body_with(part, values):
    """The tuple of the facts of a part's body, with values put in for its variables."""
    return atoms_with(part[1], things_by(part, values))


def head_with(part, values):
    """A part's head, with values put in for its variables."""
    return put_in(part[0], things_by(part, values))


def holds(part, values, store):
    """Whether a part holds with values on a store."""
    return are_unlike(part[2], things_by(part, values)) and are_among(body_with(part, values), store)


def values_for(part, store):
    """The set of the values with which a part holds on a store."""
    return tuple(sorted(rows_with(part, Tables(store))))


def answers(question, store):
    """The set of all answers of a question on a store."""
    tables = Tables(store)
    found = []
    for part in question[1]:
        variables = variables_of(part)
        found.extend([put_in(part[0], dict(zip(variables, row))) for row in rows_with(part, tables)])
    return set_of(found)


def keeps(ban, store):
    """Whether a store keeps a ban."""
    tables = Tables(store)
    for part in ban[1]:
        if rows_with(part, tables):
            return False
    return True
