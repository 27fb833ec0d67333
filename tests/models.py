"""Slow models of what the document says, and draws of small values, for the tests to compare with.

The models share no code with the package: they look at all values over the things that there are.
"""

import itertools


def model_variables(body):
    """The variables of a body, in the order in which they first come in it."""
    terms = [term for _, terms in body for term in terms]
    return [term for place, term in enumerate(terms) if term < 0 and term not in terms[:place]]


def things_in(store):
    return sorted({thing for _, things in store for thing in things})


def with_things(terms, chosen):
    return tuple(chosen[term] if term < 0 else term for term in terms)


def model_values(part, store):
    """The set of the values with which a part holds on a store."""
    _, body, unlike = part
    variables = model_variables(body)
    found = []
    for values in itertools.product(things_in(store), repeat=len(variables)):
        chosen = dict(zip(variables, values))
        facts = [(kind, with_things(terms, chosen)) for kind, terms in body]
        if all(fact in store for fact in facts) and all(len(set(with_things(pair, chosen))) == 2 for pair in unlike):
            found.append(values)
    return tuple(found)


def are_unlike(part, values):
    chosen = dict(zip(model_variables(part[1]), values))
    return all(chosen.get(one, one) != chosen.get(other, other) for one, other in part[2])


def is_way(part, values, known):
    """Whether each value is known, or stands before it, or is the least new thing that does not."""
    for place, value in enumerate(values):
        fresh = [thing for thing in range(30) if thing not in known and thing not in values[:place]]
        if value not in known and value not in values[:place] and value != fresh[0]:
            return False
    return are_unlike(part, values)


def model_ways(part, known):
    """All ways of a part, ascending: those of all values that are ways."""
    many = len(model_variables(part[1]))
    things = range(max([0, *known]) + many + 2)
    return [values for values in itertools.product(things, repeat=many) if is_way(part, values, known)]


def model_answers(question, store):
    """The set of all answers of a question on a store."""
    found = set()
    for part in question[1]:
        variables = model_variables(part[1])
        found |= {with_things(part[0], dict(zip(variables, values))) for values in model_values(part, store)}
    return tuple(sorted(found))


def model_done(deed, store):
    """The store after a deed."""
    word, (kind, terms) = deed[0], deed[1]
    if word == "put":
        heads = {values for values in model_values((terms, deed[2], deed[3]), store)}
        variables = model_variables(deed[2])
        return tuple(sorted({*store, *[(kind, with_things(terms, dict(zip(variables, row)))) for row in heads]}))
    variables = model_variables((deed[1],))
    met, come = set(), set()
    for values in itertools.product(things_in(store), repeat=len(variables)):
        chosen = dict(zip(variables, values))
        fact = (kind, with_things(terms, chosen))
        if fact in store and all(len(set(with_things(pair, chosen))) == 2 for pair in deed[2]):
            met.add(fact)
            if word == "turn":
                come.add((kind, with_things(deed[3], chosen)))
    return tuple(sorted({fact for fact in store if fact not in met} | come))


def model_run(program, store):
    """The store after a program."""
    for deed in program:
        store = model_done(deed, store)
    return store


def stores_over(kinds, things):
    """All stores over these things."""
    facts = [(kind, row) for kind, many in enumerate(kinds) for row in itertools.product(things, repeat=many)]
    for many in range(len(facts) + 1):
        yield from itertools.combinations(facts, many)


class Draws:
    """Values drawn one after the other, the same ones at each run."""

    def __init__(self, seed):
        self.state = seed

    def below(self, limit):
        self.state = (self.state * 6364136223846793005 + 1442695040888963407) % 2 ** 64
        return (self.state >> 33) % limit

    def one_of(self, rows):
        return rows[self.below(len(rows))]

    def store(self, kinds, things, most):
        """A store of at most so many facts over these things."""
        kinds_drawn = [self.below(len(kinds)) for _ in range(self.below(most + 1))]
        facts = {(kind, tuple(self.one_of(things) for _ in range(kinds[kind]))) for kind in kinds_drawn}
        return tuple(sorted(facts))

    def atom(self, kinds, terms):
        kind = self.below(len(kinds))
        return (kind, tuple(self.one_of(terms) for _ in range(kinds[kind])))

    def pairs(self, terms, most):
        """A set of at most so many pairs of unlike ones of these terms."""
        rows = list(itertools.combinations(sorted(set(terms)), 2))
        return tuple(sorted({self.one_of(rows) for _ in range(self.below(most + 1))})) if rows else ()

    def part(self, kinds, arity, terms, most):
        """A part with at most so many atoms of these terms, some of them things."""
        body = tuple(self.atom(kinds, terms) for _ in range(self.below(most + 1)))
        bound = model_variables(body) + [term for term in terms if term >= 0]
        return (tuple(self.one_of(bound) for _ in range(arity)), body, self.pairs(bound, 2))

    def question(self, kinds, arity, terms, most, parts=2):
        return (arity, tuple(sorted({self.part(kinds, arity, terms, most) for _ in range(1 + self.below(parts))})))

    def deed(self, kinds, terms):
        """A deed with these terms, some of them things."""
        word = self.one_of(("put", "take", "turn"))
        things = [term for term in terms if term >= 0]
        if word == "put":
            body = tuple(self.atom(kinds, terms) for _ in range(self.below(3)))
            bound = model_variables(body) + things
            return (word, self.atom(kinds, bound), body, self.pairs(bound, 1))
        atom = self.atom(kinds, terms)
        bound = model_variables((atom,)) + things
        unlike = self.pairs(bound, 2)
        if word == "take":
            return (word, atom, unlike)
        return (word, atom, unlike, tuple(self.one_of(bound) for _ in atom[1]))

    def program(self, kinds, terms, most):
        """A program of 1 to so many deeds."""
        return tuple(self.deed(kinds, terms) for _ in range(1 + self.below(most)))

    def wish(self, kinds, program, terms):
        word = self.one_of(("keeps", "same", "leads", "spares"))
        if word == "keeps":
            return (word, self.question(kinds, 0, terms, 2))
        if word == "same":
            return (word, self.one_of((program, program[1:], program[:-1], self.program(kinds, terms, 2))))
        store = self.store(kinds, (0, 1, 5), 6)
        extra = [(kind, (5,) * many) for kind, many in enumerate(kinds)]
        return (word, store, self.one_of([*model_run(program, store), *store, *extra]))

    def options(self, kinds, program, terms):
        found = []
        for _ in range(1 + self.below(3)):
            cost = self.one_of((0, 1, 1, 2, 99))
            if program and self.below(2):
                found.append(("drop", self.below(len(program)), cost))
            else:
                found.append(("put", self.below(len(program) + 1), self.deed(kinds, terms), cost))
        return tuple(found)

    def ban(self, kinds, terms):
        return self.question(kinds, 0, terms, 2) if self.below(3) else (0, ())

    def claim(self, kinds=(2, 1), terms=(-1, -2, 0)):
        """A claim of each word, often one that is not so."""
        word = self.one_of(("within", "kept", "same", "settled", "untouched", "mend"))
        ban, program = self.ban(kinds, terms), self.program(kinds, terms, 3)[self.below(2):]
        if word == "within":
            arity = self.below(3)
            return (word, kinds, ban, self.question(kinds, arity, terms, 2), self.question(kinds, arity, terms, 2))
        if word == "kept":
            return (word, kinds, ban, program, self.one_of((ban, self.question(kinds, 0, terms, 3))))
        if word == "same":
            other = self.one_of((program[1:], program + program[-1:], self.program(kinds, terms, 2)))
            return (word, kinds, ban, program, other)
        if word == "settled":
            # Most drawn programs are settled; one that turns all pairs round seldom is.
            return (word, kinds, ban, program + self.one_of(((), (("turn", (0, (-1, -2)), (), (-2, -1)),))))
        if word == "untouched":
            return (word, kinds, ban, program, self.question(kinds, self.below(3), terms, 2))
        wishes = tuple(self.wish(kinds, program, terms) for _ in range(1 + self.below(2)))
        n = self.one_of((0, 0, 0, 1, 1, 2, 99, None))
        return (word, kinds, ban, program, wishes, self.options(kinds, program, terms), n)
