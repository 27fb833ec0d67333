"""Deeds, programs, and what they do to a store."""

from backasked.answers import answers
from backasked.errors import InvalidProgram
from backasked.forms import is_tuple, set_of
from backasked.questions import are_atoms, are_pairs, are_terms, is_atom
from backasked.terms import are_unlike, matched, put_in

LEAST_VARIABLE = -4
MOST_DEEDS = 4
MOST_ATOMS = 2
MOST_PAIRS = 2


def are_few_pairs(value):
    """Whether any value is a set of pairs, with at most as many as a deed may have."""
    return is_tuple(value, 0, MOST_PAIRS) and are_pairs(value)


def are_bound(rows, by):
    """Whether rows of terms have no variables but those of the rows that bind them, and these are a deed's."""
    binding = [term for row in by for term in row]
    terms = [term for row in rows for term in row]
    return all([term >= LEAST_VARIABLE for term in binding]) and all([term >= 0 or term in binding for term in terms])


def is_put(kinds, value):
    """Whether a tuple is a put for the kinds."""
    if len(value) != 4:
        return False
    _, atom, body, unlike = value
    if not is_atom(kinds, atom) or not are_atoms(kinds, body, MOST_ATOMS) or not are_few_pairs(unlike):
        return False
    return are_bound([atom[1], *unlike], [terms for _, terms in body])


def is_take(kinds, value):
    """Whether a tuple is a take for the kinds."""
    if len(value) != 3:
        return False
    _, atom, unlike = value
    return is_atom(kinds, atom) and are_few_pairs(unlike) and are_bound(unlike, [atom[1]])


def is_turn(kinds, value):
    """Whether a tuple is a turn for the kinds."""
    if len(value) != 4:
        return False
    _, atom, unlike, terms = value
    if not is_atom(kinds, atom) or not are_few_pairs(unlike) or not are_terms(terms, len(atom[1])):
        return False
    return are_bound([*unlike, terms], [atom[1]])


def is_deed(kinds, value):
    """Whether any value is a deed for the kinds."""
    if not is_tuple(value, 3, 4):
        return False
    if value[0] == "put":
        return is_put(kinds, value)
    if value[0] == "take":
        return is_take(kinds, value)
    return value[0] == "turn" and is_turn(kinds, value)


def require_program(kinds, value):
    """Return any value that is a program for the kinds; raise InvalidProgram for any other one."""
    if not is_tuple(value, 0, MOST_DEEDS):
        raise InvalidProgram(None)
    for index, deed in enumerate(value):
        if not is_deed(kinds, deed):
            raise InvalidProgram(index)
    return value


def met_with(deed, fact):
    """The dict of what is put in where a take or a turn meets the fact, or None where it does not."""
    kind, terms = deed[1]
    chosen = matched(terms, fact[1], {}) if kind == fact[0] else None
    if chosen is None or not are_unlike(deed[2], chosen):
        return None
    return chosen


def is_met(deed, fact):
    """Whether a take or a turn meets a fact."""
    return met_with(deed, fact) is not None


def put(deed, store):
    """The store after a put."""
    _, (kind, terms), body, unlike = deed
    # What comes are the answers of a question that has the deed's atom as its head.
    come = answers((len(terms), ((terms, body, unlike),)), store)
    return set_of([*store, *[(kind, things) for things in come]])


def turned(deed, store):
    """The store after a turn."""
    _, atom, _, terms = deed
    found = []
    for fact in store:
        chosen = met_with(deed, fact)
        found.append(fact if chosen is None else (atom[0], put_in(terms, chosen)))
    return set_of(found)


def done(deed, store):
    """The store after a deed."""
    if deed[0] == "put":
        return put(deed, store)
    if deed[0] == "turn":
        return turned(deed, store)
    return tuple([fact for fact in store if not is_met(deed, fact)])


def run(program, store):
    """The store after a program."""
    after = store
    for deed in program:
        after = done(deed, after)
    return after
