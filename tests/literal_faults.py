"""The first fault of a certificate as the words of the document tell it.

A paper is taken apart into leaves: hits, stores, and what a choice costs. First the form of each leaf is looked at,
then, in the order of the document, what is wrong with each. Only leading back, runs and valid claims are the package's.
"""

from literal import facts_and_head, literal_changed, literal_choices, model_known
from models import model_answers, model_run, model_values, model_variables, model_ways

from backasked.claims import require_claim
from backasked.errors import InvalidClaim, LimitExceeded
from backasked.leading import led_back
from backasked.stores import require_store


def is_integer(value):
    return isinstance(value, int) and not isinstance(value, bool)


def is_tuple_of(value, many):
    return isinstance(value, tuple) and len(value) == many


def are_things(value, many):
    return is_tuple_of(value, many) and all(is_integer(thing) and 0 <= thing <= 29 for thing in value)


def is_store(kinds, value, most):
    try:
        return len(require_store(kinds, value)) <= most
    except ValueError:
        return False


class Hits:
    def __init__(self, hits, first, second, ban):
        self.hits, self.first, self.second, self.ban = hits, first, second, ban
        if first is not None and second is not None:
            known = model_known(first, second, ban)
            self.ways = [model_ways(part, known) for part in first[1]]

    def is_hit(self, hit):
        if not is_tuple_of(hit, 3) or hit[0] not in ("ban", "answer"):
            return False
        parts = (self.ban if hit[0] == "ban" else self.second)[1]
        return is_integer(hit[1]) and 0 <= hit[1] < len(parts) and are_things(
            hit[2], len(model_variables(parts[hit[1]][1])))

    def is_formed(self):
        if self.first is None or self.second is None or sum(len(ways) for ways in self.ways) > 1000:
            return False
        return is_tuple_of(self.hits, len(self.ways)) and all(
            is_tuple_of(of_part, len(ways)) and all(self.is_hit(hit) for hit in of_part)
            for of_part, ways in zip(self.hits, self.ways))

    def fault(self):
        for p, part in enumerate(self.first[1]):
            for w, way in enumerate(self.ways[p]):
                facts, head = facts_and_head(part, way)
                word, index, values = self.hits[p][w]
                told = (self.ban if word == "ban" else self.second)[1][index]
                right = values in model_values(told, facts)
                if not right or word == "answer" and facts_and_head(told, values)[1] != head:
                    return ("hit", p, w)
        return None


class Store:
    def __init__(self, kinds, store, ban, is_so, answer=(), arity=0):
        self.kinds, self.store, self.ban, self.is_so, self.answer, self.arity = kinds, store, ban, is_so, answer, arity

    def is_formed(self):
        return is_store(self.kinds, self.store, 12) and are_things(self.answer, self.arity)

    def fault(self):
        if model_answers(self.ban, self.store):
            return ("ban",)
        return ("same",) if self.is_so(self.store) else None


class End:
    def __init__(self, kinds, store, program, wish, is_ground):
        self.kinds, self.store, self.program, self.wish, self.is_ground = kinds, store, program, wish, is_ground

    def is_formed(self):
        return is_store(self.kinds, self.store, 3600)

    def fault(self):
        after = model_run(self.program, self.wish[1])
        if self.store != after:
            return ("store",)
        is_kept = (self.wish[2] in after) == (self.wish[0] == "leads")
        return None if is_kept == self.is_ground else ("same",)


class Cost:
    def __init__(self, is_right):
        self.is_right = is_right

    def is_formed(self):
        return True

    def fault(self):
        return None if self.is_right else ("cost",)


def shift(program, question):
    try:
        return led_back(program, question, tries=1000)
    except LimitExceeded:
        return None


class Unformed(Exception):
    """The paper cannot be taken apart."""


def taken_apart(value, many):
    if not is_tuple_of(value, many):
        raise Unformed()
    return value


def shown_kept(kinds, ban, program, other, paper):
    return [((), Hits(paper, shift(program, other), (0, ()), ban))]


def both_ways(one, other, ban, paper):
    there, back = taken_apart(paper, 2)
    return [(0, Hits(there, one, other, ban)), (1, Hits(back, other, one, ban))]


def shown_same(kinds, ban, one, other, paper):
    found = []
    for k, pair in enumerate(taken_apart(paper, len(kinds))):
        terms = tuple(-1 - place for place in range(kinds[k]))
        question = (kinds[k], ((terms, ((k, terms),), ()),))
        told = both_ways(shift(one, question), shift(other, question), ban, pair)
        found += [((("kind", k, i),), leaf) for i, leaf in told]
    return found


def shown_untouched(ban, program, question, paper):
    told = both_ways(shift(program, question), led_back((), question), ban, paper)
    return [((("side", i),), leaf) for i, leaf in told]


def broken_kept(kinds, ban, program, other, paper):
    (store,) = taken_apart(paper, 1)
    return [((), Store(kinds, store, ban, lambda store: not model_answers(other, model_run(program, store))))]


def broken_same(kinds, ban, one, other, paper):
    (store,) = taken_apart(paper, 1)
    return [((), Store(kinds, store, ban, lambda store: model_run(one, store) == model_run(other, store)))]


def broken_untouched(kinds, ban, program, question, paper):
    (store,) = taken_apart(paper, 1)
    return [((), Store(kinds, store, ban, lambda store: model_answers(question, store) == model_answers(
        question, model_run(program, store))))]


def broken_within(kinds, ban, first, second, paper):
    store, answer = taken_apart(paper, 2)
    return [((), Store(kinds, store, ban, lambda store: answer not in model_answers(first, store)
                       or answer in model_answers(second, store), answer, first[0]))]


def wish_leaves(kinds, ban, program, wish, is_ground, paper):
    if wish[0] in ("leads", "spares"):
        return [((), End(kinds, paper, program, wish, is_ground))]
    if wish[0] == "keeps":
        return (shown_kept if is_ground else broken_kept)(kinds, ban, program, wish[1], paper)
    return (shown_same if is_ground else broken_same)(kinds, ban, program, wish[1], paper)


def ground_leaves(claim, choice, grounds):
    _, kinds, ban, program, wishes, options, _ = claim
    changed = literal_changed(program, options, choice)
    found = []
    for w, paper in enumerate(taken_apart(grounds, len(wishes))):
        told = wish_leaves(kinds, ban, changed, wishes[w], True, paper)
        found += [((("ground", w), *words), leaf) for words, leaf in told]
    return found


def break_leaves(claim, told, breaks):
    _, kinds, ban, program, wishes, options, _ = claim
    found = []
    for c, value in enumerate(taken_apart(breaks, len(told))):
        index, paper = taken_apart(value, 2)
        if not is_integer(index) or not 0 <= index < len(wishes):
            raise Unformed()
        changed = literal_changed(program, options, told[c])
        found += [((("break", c), *words), leaf)
                  for words, leaf in wish_leaves(kinds, ban, changed, wishes[index], False, paper)]
    return found


def mend_leaves(claim, verdict, paper):
    _, _, _, program, _, options, n = claim
    told = literal_choices(program, options)
    costs = [sum(options[index][-1] for index in choice) for choice in told]

    def below(limit):
        return [choice for choice, cost in zip(told, costs) if cost < limit]

    def chosen(choice, is_right):
        if not isinstance(choice, tuple) or not all(is_integer(index) for index in choice) or choice not in told:
            raise Unformed()
        return [((), Cost(is_right(costs[told.index(choice)])))]

    if verdict == "shown" and n is None:
        return break_leaves(claim, told, paper)
    if verdict == "shown":
        choice, grounds, breaks = taken_apart(paper, 3)
        return [*chosen(choice, lambda cost: cost == n), *ground_leaves(claim, choice, grounds),
                *break_leaves(claim, below(n), breaks)]
    if is_tuple_of(paper, 3) and paper[0] == "less":
        is_less = chosen(paper[1], lambda cost: n is None or cost < n)
        return [*is_less, *ground_leaves(claim, paper[1], paper[2])]
    if is_tuple_of(paper, 2) and paper[0] == "more" and n is not None:
        return break_leaves(claim, below(n + 1), paper[1])
    raise Unformed()


def leaves(claim, verdict, paper):
    """The leaves of a paper, each with the words that tell where it stands, in the order of their faults."""
    word, kinds, ban, first = claim[:4]
    if word == "mend":
        return mend_leaves(claim, verdict, paper)
    other = claim[4] if len(claim) > 4 else first + first
    if verdict == "shown":
        if word == "within":
            return [((), Hits(paper, first, other, ban))]
        if word == "kept":
            return shown_kept(kinds, ban, first, other, paper)
        if word == "untouched":
            return shown_untouched(ban, first, other, paper)
        return shown_same(kinds, ban, first, other, paper)
    broken = {"within": broken_within, "kept": broken_kept, "untouched": broken_untouched}.get(word, broken_same)
    return broken(kinds, ban, first, other, paper)


def literal_fault(certificate):
    if not is_tuple_of(certificate, 3):
        return ("form",)
    verdict, claim, paper = certificate
    try:
        require_claim(claim)
    except InvalidClaim:
        return ("claim",)
    if verdict not in ("shown", "broken"):
        return ("paper",)
    try:
        told = leaves(claim, verdict, paper)
    except Unformed:
        return ("paper",)
    if not all(leaf.is_formed() for _, leaf in told):
        return ("paper",)
    for words, leaf in told:
        fault = leaf.fault()
        if fault is not None:
            for each in reversed(words):
                fault = (*each, fault)
            return fault
    return None
