"""Questions after deeds, led back to questions before them."""

from backasked.errors import LimitExceeded
from backasked.forms import set_of
from backasked.questions import MOST_ATOMS, variables_of
from backasked.terms import are_unlike, atoms_with, put_in

MOST_VARIABLES = 8
# The deed's variables get numbers so far below those of a part, and of each other atom's case, that they never meet.
ROOM = 1000


def moved(terms, room):
    """The terms with their variables moved so far down."""
    return tuple([term if term >= 0 else term - room for term in terms])


def itself(atom):
    """The case of a question's atom that stood there before the deed."""
    return ((), (atom,), ())


def case_of_deed(told, atoms, unlike, asked, room):
    """The case in which a deed told the terms for the asked ones, from its atoms with its pairs."""
    equations = tuple(zip(moved(told, room), asked))
    before = tuple([(kind, moved(terms, room)) for kind, terms in atoms])
    return (equations, before, tuple([moved(pair, room) for pair in unlike]))


def cases_unmet(deed, atom):
    """For each condition of a take, or of a turn, the case in which the atom does not meet it."""
    terms = deed[1][1]
    asked = atom[1]
    found = []
    for place, term in enumerate(terms):
        if term >= 0:
            found.append(((), (atom,), ((asked[place], term),)))
        elif terms.index(term) < place:
            found.append(((), (atom,), ((asked[place], asked[terms.index(term)]),)))
    for pair in deed[2]:
        equation = tuple([term if term >= 0 else asked[terms.index(term)] for term in pair])
        found.append(((equation,), (atom,), ()))
    return tuple(found)


def cases_apart(deed, atom, room):
    """The tuple of the cases of an atom, the deed's variables moved so far down."""
    kind, terms = deed[1]
    asked = atom[1]
    if kind != atom[0]:
        return (itself(atom),)
    if deed[0] == "put":
        _, _, body, unlike = deed
        return (itself(atom), case_of_deed(terms, body, unlike, asked, room))
    if deed[0] == "take":
        return cases_unmet(deed, atom)
    _, met, unlike, told = deed
    return (*cases_unmet(deed, atom), case_of_deed(told, (met,), unlike, asked, room))


def cases(deed, atom):
    """The tuple of the cases of an atom after a deed; the deed's variable -1 is -9 there, and so on."""
    return cases_apart(deed, atom, MOST_VARIABLES)


def normal(part):
    """The normal form of a part."""
    head, body, unlike = part
    names = {variable: -1 - place for place, variable in enumerate(variables_of(part))}
    atoms = []
    for atom in atoms_with(body, names):
        if atom not in atoms:
            atoms.append(atom)
    pairs = [tuple(sorted(put_in(pair, names))) for pair in unlike if min(pair) < 0]
    return (put_in(head, names), tuple(atoms), set_of(pairs))


def made_same(equations):
    """The dict of what stands for each variable where equal terms are the same; None if two things would be."""
    same = {}
    for equation in equations:
        low, high = sorted(put_in(equation, same))
        if low == high:
            continue
        if low >= 0:
            return None
        # Things are greater than variables, so a thing stays where there is one.
        same = {term: high if stands == low else stands for term, stands in same.items()}
        same[low] = high
    return same


def part_before(part, choice):
    """The part before the deed by a case for each atom, in normal form; None if there is no such part."""
    head, _, unlike = part
    same = made_same([equation for equations, _, _ in choice for equation in equations])
    if same is None:
        return None
    atoms = [atom for _, some, _ in choice for atom in some]
    pairs = [*unlike, *[pair for _, _, some in choice for pair in some]]
    if not are_unlike(pairs, same):
        return None
    return normal((put_in(head, same), atoms_with(atoms, same), tuple([put_in(pair, same) for pair in pairs])))


def choices_of(deed, part):
    """The list of the choices of one case for each atom of a part."""
    found = [()]
    for index, atom in enumerate(part[1]):
        each = cases_apart(deed, atom, ROOM * (index + 1))
        found = [(*choice, case) for choice in found for case in each]
    return found


def choices_at(deed, question):
    """How many choices there are at a deed, for all parts of a question."""
    total = 0
    for part in question[1]:
        many = 1
        for atom in part[1]:
            many = many * len(cases(deed, atom))
        total = total + many
    return total


def is_too_large(part):
    """Whether a part has more atoms or variables than one of a question may have."""
    return len(part[1]) > MOST_ATOMS or len(variables_of(part)) > MOST_VARIABLES


def led_back_once(deed, question, tries):
    """The question led back through one deed; raise LimitExceeded if it meets the limit."""
    if choices_at(deed, question) > tries:
        raise LimitExceeded(tries)
    arity, parts = question
    found = []
    for part in parts:
        for choice in choices_of(deed, part):
            before = part_before(part, choice)
            if before is None:
                continue
            if is_too_large(before):
                raise LimitExceeded(tries)
            found.append(before)
    return (arity, set_of(found))


def led_back(program, question, *, tries=300):
    """The question before a program that has the answers of the question after it; raise LimitExceeded."""
    before = question
    for deed in reversed(program):
        before = led_back_once(deed, before, tries)
    arity, parts = before
    return (arity, set_of([normal(part) for part in parts]))
