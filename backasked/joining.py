"""The rows that come about when the atoms of a body are joined, one after the other, on a store."""

from backasked.questions import variables_of

KNOWN = -1


class Tables:
    """The facts of a store, in tables by which those that fit an atom are found without looking at the others.

    A table is made when it is first asked for: the parts of a question ask for few of them, and for the same ones.
    """

    def __init__(self, facts):
        self.facts = facts
        self.made = {}

    def table(self, kind, pattern):
        """The table of the facts of a kind that fit a pattern."""
        key = (kind, pattern)
        if key not in self.made:
            self.made[key] = table_of(self.facts, kind, pattern)
        return self.made[key]


def pattern_of(terms, variables):
    """For each place of an atom KNOWN, if its thing is known by the variables, else the first place of its term."""
    return tuple([KNOWN if term >= 0 or term in variables else terms.index(term) for term in terms])


def table_of(store, kind, pattern):
    """The things at the new places of the facts that fit, in lists by the things at their known places."""
    table = {}
    for other, things in store:
        if other == kind and fits(things, pattern):
            known = tuple([thing for thing, place in zip(things, pattern) if place == KNOWN])
            fresh = tuple([thing for place, thing in enumerate(things) if pattern[place] == place])
            table.setdefault(known, []).append(fresh)
    return table


def fits(things, pattern):
    """Whether the things are the same where the pattern has the same new variable."""
    return all([place == KNOWN or things[place] == thing for thing, place in zip(things, pattern)])


def joined(rows, variables, terms, table):
    """Each row of values for the variables, longer by each entry that the table has for the known terms with it."""
    sources = [(variables.index(term) if term < 0 else None, term) for term in terms]
    found = []
    for row in rows:
        known = tuple([term if at is None else row[at] for at, term in sources])
        for fresh in table.get(known, ()):
            found.append(row + fresh)
    return found


def rows_of(body, tables):
    """The list of the values for the variables of a body with which all its facts are in the store."""
    variables = ()
    rows = [()]
    for kind, terms in body:
        pattern = pattern_of(terms, variables)
        known = [term for term, place in zip(terms, pattern) if place == KNOWN]
        rows = joined(rows, variables, known, tables.table(kind, pattern))
        if not rows:
            return []
        variables = variables + tuple([term for place, term in enumerate(terms) if pattern[place] == place])
    return rows


def rows_unlike(rows, pair, variables):
    """The rows with which the two terms of a pair are unlike things."""
    one, other = pair
    if one >= 0:
        return rows if one != other else []
    at = variables.index(one)
    if other >= 0:
        return [row for row in rows if row[at] != other]
    beside = variables.index(other)
    return [row for row in rows if row[at] != row[beside]]


def rows_with(part, tables):
    """The list of the values with which a part holds, in no promised order, each once."""
    variables = variables_of(part)
    rows = rows_of(part[1], tables)
    for pair in part[2]:
        rows = rows_unlike(rows, pair, variables)
    return rows
