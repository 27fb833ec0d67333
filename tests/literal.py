"""The later stages as the words of the document tell them, one step after the other, without any shortcut.

They rest on leading back alone (that has tests of its own) and on the slow models.
"""

import itertools

from models import model_answers, model_run, model_variables, model_ways, with_things

from backasked.errors import LimitExceeded
from backasked.leading import led_back, normal


def outcome(call, *arguments, **more):
    """What a call returns, or the limit that it meets."""
    try:
        return ("returned", call(*arguments, **more))
    except LimitExceeded as error:
        return ("limit", error.limit)


def model_known(*questions):
    """The set of the things that are known by the questions."""
    found = set()
    for _, parts in questions:
        for head, body, unlike in parts:
            rows = [head, *[terms for _, terms in body], *unlike]
            found |= {term for row in rows for term in row if term >= 0}
    return tuple(sorted(found))


def facts_and_head(part, values):
    chosen = dict(zip(model_variables(part[1]), values))
    return tuple(sorted({(kind, with_things(terms, chosen)) for kind, terms in part[1]})), with_things(part[0], chosen)


def literal_parting(first, second, ban, tries=300):
    known = model_known(first, second, ban)
    ways = [(index, values) for index, part in enumerate(first[1]) for values in model_ways(part, known)]
    if len(ways) > tries:
        raise LimitExceeded(tries)
    for index, values in ways:
        facts, head = facts_and_head(first[1][index], values)
        if not model_answers(ban, facts) and head not in model_answers(second, facts):
            return (index, values)
    return None


def literal_within(first, second, ban, tries=300):
    return literal_parting(first, second, ban, tries) is None


def literal_alike(one, other, ban, tries=300):
    return literal_within(one, other, ban, tries) and literal_within(other, one, ban, tries)


def left_out(rows, index):
    return tuple(row for place, row in enumerate(rows) if place != index)


def literal_without(part, place):
    """The part without a condition, or None if this is no part."""
    head, body, unlike = part
    if place < len(body):
        body = left_out(body, place)
    else:
        unlike = left_out(unlike, place - len(body))
    bound = model_variables(body)
    if any(term < 0 and term not in bound for row in (head, *unlike) for term in row):
        return None
    return (head, body, unlike)


def literal_needless(question, index, place, ban, tries=300):
    """By the definition: the whole questions are compared, the limit is that of what the interface says is compared."""
    arity, parts = question
    if place is None:
        changed, alone = (arity, left_out(parts, index)), parts[index]
        first, second = question, changed
    else:
        alone = literal_without(parts[index], place)
        if alone is None:
            return False
        changed = (arity, tuple(sorted({*left_out(parts, index), alone})))
        first, second = changed, question
    if len(model_ways(alone, model_known(question, ban))) > tries:
        raise LimitExceeded(tries)
    return literal_parting(first, second, ban, 10 ** 9) is None


def conditions(question):
    return [(index, place) for index, (_, body, unlike) in enumerate(question[1])
            for place in range(len(body) + len(unlike))]


def first_needless(question, ban, tries):
    """The first needless condition, or else the first needless part, or None."""
    for index, place in conditions(question):
        if literal_needless(question, index, place, ban, tries):
            return (index, place)
    for index in range(len(question[1])):
        if literal_needless(question, index, None, ban, tries):
            return (index, None)
    return None


def literal_trimmed(question, ban, tries=300):
    while True:
        found = first_needless(question, ban, tries)
        if found is None:
            return question
        index, place = found
        rest = left_out(question[1], index)
        fewer = [] if place is None else [literal_without(question[1][index], place)]
        question = (question[0], tuple(sorted({*rest, *fewer})))


def literal_kept(program, other, ban, tries=300):
    return literal_within(led_back(program, other, tries=tries), (0, ()), ban, tries)


def literal_same(kinds, one, other, ban, tries=300):
    for kind, many in enumerate(kinds):
        terms = tuple(range(-1, -1 - many, -1))
        question = (many, ((terms, ((kind, terms),), ()),))
        after_one = led_back(one, question, tries=tries)
        after_other = led_back(other, question, tries=tries)
        if not literal_alike(after_one, after_other, ban, tries):
            return False
    return True


def literal_untouched(program, question, ban, tries=300):
    after = led_back(program, question, tries=tries)
    return literal_alike(after, (question[0], tuple(sorted({normal(part) for part in question[1]}))), ban, tries)


def literal_choices(program, options):
    found = []
    for many in range(len(options) + 1):
        for choice in itertools.combinations(range(len(options)), many):
            drops = [options[index][1] for index in choice if options[index][0] == "drop"]
            if len(set(drops)) == len(drops) and len(literal_changed(program, options, choice)) <= 4:
                found.append((sum(options[index][-1] for index in choice), choice))
    return [choice for _, choice in sorted(found)]


def literal_changed(program, options, choice):
    """Each deed with a place to be sorted by: puts at an index before the deed that has it."""
    rows = [((index, 1, 0), deed) for index, deed in enumerate(program)]
    for index in choice:
        option = options[index]
        if option[0] == "drop":
            rows = [row for row in rows if row[0] != (option[1], 1, 0)]
        else:
            rows.append(((option[1], 0, index), option[2]))
    return tuple(deed for _, deed in sorted(rows, key=lambda row: row[0]))


def literal_wish(kinds, program, wish, ban, tries=300):
    if wish[0] == "keeps":
        return literal_kept(program, wish[1], ban, tries)
    if wish[0] == "same":
        return literal_same(kinds, program, wish[1], ban, tries)
    return (wish[2] in model_run(program, wish[1])) is (wish[0] == "leads")


def literal_mend(kinds, program, wishes, options, ban, tries=300):
    for choice in literal_choices(program, options):
        changed = literal_changed(program, options, choice)
        if all(literal_wish(kinds, changed, wish, ban, tries) for wish in wishes):
            return choice
    return None


def literal_decided(claim, tries=300):
    """Whether a valid claim is so."""
    word, kinds, ban, first = claim[:4]
    if word == "within":
        return literal_within(first, claim[4], ban, tries)
    if word == "kept":
        return literal_kept(first, claim[4], ban, tries)
    if word == "same":
        return literal_same(kinds, first, claim[4], ban, tries)
    if word == "settled":
        return literal_same(kinds, first, first * 2, ban, tries)
    if word == "untouched":
        return literal_untouched(first, claim[4], ban, tries)
    _, _, _, _, wishes, options, n = claim
    choice = literal_mend(kinds, first, wishes, options, ban, tries)
    return n == (None if choice is None else sum(options[index][-1] for index in choice))
