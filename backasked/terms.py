"""Terms with things, or other terms, put in for their variables."""


def put_in(terms, chosen):
    """The terms with what is chosen for them put in; a term for which nothing is chosen stays."""
    return tuple([chosen.get(term, term) for term in terms])


def atoms_with(atoms, chosen):
    """The tuple of the atoms with what is chosen put in for their terms."""
    return tuple([(kind, put_in(terms, chosen)) for kind, terms in atoms])


def are_unlike(pairs, chosen):
    """Whether the two terms of each pair are unlike, with what is chosen put in for them."""
    for one, other in pairs:
        if chosen.get(one, one) == chosen.get(other, other):
            return False
    return True


def matched(terms, things, chosen):
    """The dict of what is chosen, and of what has to be chosen besides for the terms to be the things; None if none."""
    longer = dict(chosen)
    for term, thing in zip(terms, things):
        if term >= 0 and term != thing:
            return None
        if term < 0 and longer.setdefault(term, thing) != thing:
            return None
    return longer
