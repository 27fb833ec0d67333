"""The faults of papers, for each kind of paper: hits, stores, and what shows that a wish is kept or not.

Each function takes any value as a paper and tells its first fault or None; a wrong form comes before all others.
"""

from backasked.answers import answers, head_with, holds, keeps
from backasked.errors import LimitExceeded
from backasked.forms import is_integer, is_tuple
from backasked.leading import led_back
from backasked.mends import is_met_by
from backasked.programs import run
from backasked.questions import known_by, no_ban, question_of, variables_of
from backasked.stores import GREATEST_THING
from backasked.validity import is_store
from backasked.ways import facts_of, ways_by_part

MOST_TRIES = 1000
MOST_FACTS = 12
NO_FORM = ("paper",)
NO_BAN_KEPT = ("ban",)
NOT_SO = ("same",)
OTHER_STORE = ("store",)


def first_of(faults):
    """The first fault in a list of faults and None, but a wrong form before all others; None if there is none."""
    if NO_FORM in faults:
        return NO_FORM
    for fault in faults:
        if fault is not None:
            return fault
    return None


def told_at(words, fault):
    """A fault with the words that tell where it is; a wrong form is told without them."""
    return fault if fault is None or fault == NO_FORM else (*words, fault)


def are_things(value, many):
    """Whether any value is a tuple of so many things."""
    return is_tuple(value, many, many) and all([is_integer(thing, 0, GREATEST_THING) for thing in value])


def is_hit(value, second, ban):
    """Whether any value has the form of a hit."""
    if not is_tuple(value, 3, 3) or value[0] not in ("ban", "answer"):
        return False
    word, index, values = value
    parts = ban[1] if word == "ban" else second[1]
    return is_integer(index, 0, len(parts) - 1) and are_things(values, len(variables_of(parts[index])))


def hits_way(hit, part, way, second, ban):
    """Whether a hit is one for a way of a part."""
    word, index, values = hit
    told = ban[1][index] if word == "ban" else second[1][index]
    if word == "answer" and head_with(told, values) != head_with(part, way):
        return False
    return holds(told, values, facts_of(part, way))


def have_form(hits, ways, second, ban):
    """Whether any value has the form of hits for these ways of each part."""
    if not is_tuple(hits, len(ways), len(ways)):
        return False
    for of_part, ways_of_part in zip(hits, ways):
        many = len(ways_of_part)
        if not is_tuple(of_part, many, many) or not all([is_hit(hit, second, ban) for hit in of_part]):
            return False
    return True


def fault_of_hits(hits, first, second, ban):
    """The first fault of hits for a question within another one; of the questions None stands for no shift."""
    if first is None or second is None:
        return NO_FORM
    ways = ways_by_part(first[1], known_by((first, second, ban)), MOST_TRIES)
    if ways is None or not have_form(hits, ways, second, ban):
        return NO_FORM
    for index, part in enumerate(first[1]):
        for place, way in enumerate(ways[index]):
            if not hits_way(hits[index][place], part, way, second, ban):
                return ("hit", index, place)
    return None


def faults_of_pair(pair, one, other, ban):
    """The first faults of the hits both ways, in a list; of the questions None stands for no shift."""
    if not is_tuple(pair, 2, 2):
        return [NO_FORM]
    return [fault_of_hits(pair[0], one, other, ban), fault_of_hits(pair[1], other, one, ban)]


def shift(program, question):
    """The question led back through a program, or None where this meets the limit."""
    try:
        return led_back(program, question, tries=MOST_TRIES)
    except LimitExceeded:
        return None


def fault_of_kept(hits, program, other, ban):
    """The first fault of a paper that shows that a program keeps the other ban."""
    return fault_of_hits(hits, shift(program, other), no_ban(), ban)


def fault_of_same(pairs, kinds, one, other, ban):
    """The first fault of a paper that shows that two programs are the same."""
    if not is_tuple(pairs, len(kinds), len(kinds)):
        return NO_FORM
    faults = []
    for kind, pair in enumerate(pairs):
        question = question_of(kinds, kind)
        told = faults_of_pair(pair, shift(one, question), shift(other, question), ban)
        faults.extend([told_at(("kind", kind, place), fault) for place, fault in enumerate(told)])
    return first_of(faults)


def fault_of_untouched(pair, program, question, ban):
    """The first fault of a paper that shows that a question is untouched by a program."""
    told = faults_of_pair(pair, shift(program, question), led_back((), question), ban)
    return first_of([told_at(("side", place), fault) for place, fault in enumerate(told)])


def is_alone(kinds, paper):
    """Whether any value is a tuple of one store that is small enough to break something."""
    return is_tuple(paper, 1, 1) and is_store(kinds, paper[0], MOST_FACTS)


def fault_of_store(store, ban, is_so):
    """The first fault of a store that keeps a ban and on which something is not so."""
    if not keeps(ban, store):
        return NO_BAN_KEPT
    return NOT_SO if is_so else None


def fault_of_parted(paper, kinds, first, second, ban):
    """The first fault of a paper that breaks that a question is within another one."""
    if not is_tuple(paper, 2, 2) or not is_store(kinds, paper[0], MOST_FACTS) or not are_things(paper[1], first[0]):
        return NO_FORM
    store, answer = paper
    is_so = answer not in answers(first, store) or answer in answers(second, store)
    return fault_of_store(store, ban, is_so)


def fault_of_not_kept(paper, kinds, program, other, ban):
    """The first fault of a paper that breaks that a program keeps the other ban."""
    if not is_alone(kinds, paper):
        return NO_FORM
    return fault_of_store(paper[0], ban, keeps(other, run(program, paper[0])))


def fault_of_not_same(paper, kinds, one, other, ban):
    """The first fault of a paper that breaks that two programs are the same."""
    if not is_alone(kinds, paper):
        return NO_FORM
    return fault_of_store(paper[0], ban, run(one, paper[0]) == run(other, paper[0]))


def fault_of_touched(paper, kinds, program, question, ban):
    """The first fault of a paper that breaks that a question is untouched by a program."""
    if not is_alone(kinds, paper):
        return NO_FORM
    store = paper[0]
    return fault_of_store(store, ban, answers(question, store) == answers(question, run(program, store)))


def fault_of_end(store, kinds, program, wish, is_ground):
    """The first fault of the store that a program leads to, as a ground or as a break of a wish."""
    if not is_store(kinds, store):
        return NO_FORM
    if store != run(program, wish[1]):
        return OTHER_STORE
    return None if is_met_by(wish, store) == is_ground else NOT_SO


def fault_of_ground(paper, kinds, program, wish, ban):
    """The first fault of a paper that shows that a program keeps a wish."""
    if wish[0] == "keeps":
        return fault_of_kept(paper, program, wish[1], ban)
    if wish[0] == "same":
        return fault_of_same(paper, kinds, program, wish[1], ban)
    return fault_of_end(paper, kinds, program, wish, True)


def fault_of_break(paper, kinds, program, wish, ban):
    """The first fault of a paper that shows that a program does not keep a wish."""
    if wish[0] == "keeps":
        return fault_of_not_kept(paper, kinds, program, wish[1], ban)
    if wish[0] == "same":
        return fault_of_not_same(paper, kinds, program, wish[1], ban)
    return fault_of_end(paper, kinds, program, wish, False)
