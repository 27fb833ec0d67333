"""Terms with things, or other terms, put in for their variables."""


def put_in(terms, chosen):
    """The terms with what is chosen for them put in; a term for which nothing is chosen stays."""
    return tuple([chosen.get(term, term) for term in terms])


def atoms_with(atoms, chosen):
    """The tuple of the atoms with what is chosen put in for their terms."""
    return tuple([(kind, put_in(terms, chosen)) for kind, terms in atoms])


def are_unlike(pairs, chosen):
    """Whether the two terms of each pair are unlike, with what is chosen put in for them."""
    for pair in pairs:
        one, other = put_in(pair, chosen)
        if one == other:
            return False
    return True
