"""The first values with which a part of a question holds on few facts and has a given head."""

from backasked.questions import variables_of
from backasked.terms import are_unlike, matched, put_in


def things_by_kind(facts):
    """The dict of the kinds of facts with the lists of the things of the facts of each."""
    found = {}
    for kind, things in facts:
        found.setdefault(kind, []).append(things)
    return found


def longer_with(terms, things, unlike, chosen):
    """What is chosen, and what makes the terms the things besides; None if they, or a pair, cannot be so."""
    longer = matched(terms, things, chosen)
    # A variable without a thing stays itself and is unlike all things, so this looks only at pairs with things.
    return longer if longer is not None and are_unlike(unlike, longer) else None


def is_alone(place, body, unlike, chosen):
    """Whether no variable of an atom for which nothing is chosen stands in another atom of the body or in a pair."""
    others = [terms for _, terms in body[:place] + body[place + 1:]] + list(unlike)
    free = [term for term in body[place][1] if term < 0 and term not in chosen]
    return not any([term in row for row in others for term in free])


def rows_for(body, unlike, chosen, facts):
    """For each atom of a body (terms, things): the things of the facts that it may be, the atom with fewest first."""
    rows = []
    for place, (kind, terms) in enumerate(body):
        fits = [things for things in facts.get(kind, ()) if longer_with(terms, things, unlike, chosen) is not None]
        if not fits:
            return None
        # Where nothing hangs on what an atom is, one of the facts is as good as all of them.
        rows.append((terms, fits[:1] if is_alone(place, body, unlike, chosen) else fits))
    return sorted(rows, key=lambda row: len(row[1]))


def chosen_for(rows, unlike, chosen):
    """What is chosen and, for the other variables of rows, a choice with which all are facts; None if none."""
    if not rows:
        return chosen
    terms, fits = rows[0]
    for things in fits:
        longer = longer_with(terms, things, unlike, chosen)
        if longer is not None:
            found = chosen_for(rows[1:], unlike, longer)
            if found is not None:
                return found
    return None


def values_with_head(part, head, facts):
    """The first values with which a part holds and has the head, facts being those of things_by_kind; None if none."""
    asked, body, unlike = part
    # Most parts that do not hold lack a kind: this saves looking for the atoms before the one that lacks.
    if not all([kind in facts for kind, _ in body]):
        return None
    chosen = longer_with(asked, head, unlike, {})
    if chosen is None:
        return None
    rows = rows_for(body, unlike, chosen, facts)
    if rows is None:
        return None
    found = chosen_for(rows, unlike, chosen)
    return None if found is None else put_in(variables_of(part), found)


def first_values(parts, head, facts):
    """The first (index, values) of a part that holds with values and has the head; None if there is none."""
    for index, part in enumerate(parts):
        values = values_with_head(part, head, facts)
        if values is not None:
            return (index, values)
    return None


def hit_on(facts, head, second, ban):
    """A hit of a way with these facts and this head, for a question within a second one under a ban; None if none."""
    by_kind = things_by_kind(facts)
    answer = first_values(second[1], head, by_kind)
    if answer is not None:
        return ("answer", *answer)
    broken = first_values(ban[1], (), by_kind)
    return None if broken is None else ("ban", *broken)
