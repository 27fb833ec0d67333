"""The first values with which a part of a question holds on few facts and has a given head."""

from backasked.questions import variables_of
from backasked.terms import are_unlike, matched, put_in


def things_by_kind(facts):
    """The dict of the kinds of facts with the lists of the things of the facts of each."""
    found = {}
    for kind, things in facts:
        found.setdefault(kind, []).append(things)
    return found


def chosen_for(body, unlike, chosen, facts):
    """What is chosen and, for the other variables of a body, a choice with which its atoms are facts; None if none."""
    if not body:
        return chosen
    kind, terms = body[0]
    for things in facts.get(kind, ()):
        longer = matched(terms, things, chosen)
        # A variable without a thing stays itself and is unlike all things, so this looks only at pairs with things.
        if longer is not None and are_unlike(unlike, longer):
            found = chosen_for(body[1:], unlike, longer, facts)
            if found is not None:
                return found
    return None


def values_with_head(part, head, facts):
    """The first values with which a part holds and has the head, facts being those of things_by_kind; None if none."""
    asked, body, unlike = part
    # Most parts that do not hold lack a kind: this saves looking for the atoms before the one that lacks.
    if not all([kind in facts for kind, _ in body]):
        return None
    chosen = matched(asked, head, {})
    if chosen is None or not are_unlike(unlike, chosen):
        return None
    found = chosen_for(body, unlike, chosen, facts)
    return None if found is None else put_in(variables_of(part), found)


def first_values(parts, head, facts):
    """The first (index, values) of a part that holds with values and has the head; None if there is none."""
    for index, part in enumerate(parts):
        values = values_with_head(part, head, facts)
        if values is not None:
            return (index, values)
    return None


def hit_on(facts, head, second, ban):
    """A hit of a way with these facts and this head, for a question within a second one under a ban; None if none."""
    by_kind = things_by_kind(facts)
    answer = first_values(second[1], head, by_kind)
    if answer is not None:
        return ("answer", *answer)
    broken = first_values(ban[1], (), by_kind)
    return None if broken is None else ("ban", *broken)
