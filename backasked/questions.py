"""Terms, atoms, parts and questions."""

from backasked.errors import InvalidQuestion
from backasked.forms import ascends, is_integer, is_tuple

LEAST_VARIABLE = -8
GREATEST_KNOWN = 9
MOST_ATOMS = 6
MOST_PARTS = 1000
GREATEST_ARITY = 2


def is_term(value):
    """Whether any value is a term."""
    return is_integer(value, LEAST_VARIABLE, GREATEST_KNOWN)


def are_terms(value, many):
    """Whether any value is a tuple of so many terms."""
    return is_tuple(value, many, many) and all([is_term(term) for term in value])


def is_atom(kinds, value):
    """Whether any value is an atom of the kinds."""
    if not is_tuple(value, 2, 2):
        return False
    kind, terms = value
    return is_integer(kind, 0, len(kinds) - 1) and are_terms(terms, kinds[kind])


def are_atoms(kinds, value, most):
    """Whether any value is a tuple of at most so many atoms of the kinds."""
    return is_tuple(value, 0, most) and all([is_atom(kinds, atom) for atom in value])


def are_pairs(value):
    """Whether any value is a set of pairs of terms, the first one less than the second one."""
    if type(value) is not tuple:
        return False
    for index, pair in enumerate(value):
        if not are_terms(pair, 2) or not ascends(pair, 1) or not ascends(value, index):
            return False
    return True


def is_part(kinds, arity, value):
    """Whether any value is a part of a question of this arity for the kinds."""
    if not is_tuple(value, 3, 3):
        return False
    head, body, unlike = value
    if not are_terms(head, arity) or not are_atoms(kinds, body, MOST_ATOMS) or not are_pairs(unlike):
        return False
    return is_bound(value)


def is_bound(part):
    """Whether each variable of a part's head and pairs stands in its body."""
    variables = variables_of(part)
    return all([term >= 0 or term in variables for term in terms_of(part)])


def require_question(kinds, value):
    """Return any value that is a question for the kinds; raise InvalidQuestion for any other one."""
    if not is_tuple(value, 2, 2):
        raise InvalidQuestion(None)
    arity, parts = value
    if not is_integer(arity, 0, GREATEST_ARITY):
        raise InvalidQuestion("arity")
    if not is_tuple(parts, 0, MOST_PARTS):
        raise InvalidQuestion("parts")
    for index, part in enumerate(parts):
        if not is_part(kinds, arity, part) or not ascends(parts, index):
            raise InvalidQuestion(index)
    return value


def terms_of(part):
    """The list of all terms of a part: those of its head, of its body and of its pairs."""
    head, body, unlike = part
    rows = [head] + [terms for _, terms in body] + list(unlike)
    return [term for row in rows for term in row]


def variables_of(part):
    """The tuple of a part's variables, in the order in which they first come in its body."""
    found = []
    for _, terms in part[1]:
        for term in terms:
            if term < 0 and term not in found:
                found.append(term)
    return tuple(found)


def known_things(question):
    """The set of the things that stand in the parts of a question."""
    return known_by((question,))


def known_by(questions):
    """The set of the things that are known by at least one of the questions."""
    parts = [part for _, some in questions for part in some]
    return tuple(sorted({term for part in parts for term in terms_of(part) if term >= 0}))


def question_of(kinds, kind):
    """The question that has as its answers the things of all facts of a kind."""
    many = kinds[kind]
    terms = tuple([-1 - place for place in range(many)])
    return (many, ((terms, ((kind, terms),), ()),))


def no_ban():
    """The ban without parts, which every store keeps."""
    return (0, ())
