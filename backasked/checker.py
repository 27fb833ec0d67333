"""The first fault of any value as a certificate."""

from backasked.claims import require_claim
from backasked.errors import InvalidClaim
from backasked.faults import (NO_FORM, fault_of_break, fault_of_ground, fault_of_hits, fault_of_kept, fault_of_not_kept,
                              fault_of_not_same, fault_of_parted, fault_of_same, fault_of_touched, fault_of_untouched,
                              first_of, told_at)
from backasked.forms import is_integer, is_tuple
from backasked.mends import MOST_ROWS, all_choices, choices_below, cost_of, with_choice
from backasked.papers import BROKEN, SHOWN

NO_CERTIFICATE = ("form",)
NO_CLAIM = ("claim",)
OTHER_COST = ("cost",)


def is_claim(value):
    """Whether any value is a valid claim."""
    try:
        require_claim(value)
    except InvalidClaim:
        return False
    return True


def is_choice(program, options, value):
    """Whether any value is a choice."""
    # Python finds True and 1 equal: only tuples of integers are looked for among the choices.
    if not is_tuple(value, 0, MOST_ROWS) or not all([is_integer(index, 0, MOST_ROWS - 1) for index in value]):
        return False
    return value in all_choices(program, options)


def fault_of_grounds(claim, choice, grounds):
    """The first fault of any value as the grounds for a choice."""
    _, kinds, ban, program, wishes, options, _ = claim
    if not is_tuple(grounds, len(wishes), len(wishes)):
        return NO_FORM
    changed = with_choice(program, options, choice)
    told = [fault_of_ground(paper, kinds, changed, wish, ban) for wish, paper in zip(wishes, grounds)]
    return first_of([told_at(("ground", index), fault) for index, fault in enumerate(told)])


def fault_of_one_break(claim, choice, value):
    """The first fault of any value as the break for a choice."""
    _, kinds, ban, program, wishes, options, _ = claim
    if not is_tuple(value, 2, 2) or not is_integer(value[0], 0, len(wishes) - 1):
        return NO_FORM
    index, paper = value
    return fault_of_break(paper, kinds, with_choice(program, options, choice), wishes[index], ban)


def fault_of_breaks(claim, below, breaks):
    """The first fault of any value as the breaks for the choices that cost less than this, for None of all choices."""
    _, _, _, program, _, options, _ = claim
    told = choices_below(program, options, below)
    if not is_tuple(breaks, len(told), len(told)):
        return NO_FORM
    faults = [fault_of_one_break(claim, choice, value) for choice, value in zip(told, breaks)]
    return first_of([told_at(("break", index), fault) for index, fault in enumerate(faults)])


def faults_of_choice(claim, choice, grounds, is_less):
    """The first faults of any value as a choice that mends, of its cost and of its grounds, in a list."""
    _, _, _, program, _, options, n = claim
    if not is_choice(program, options, choice):
        return [NO_FORM]
    cost = cost_of(options, choice)
    is_wrong = n is not None and cost >= n if is_less else cost != n
    return [OTHER_COST if is_wrong else None, fault_of_grounds(claim, choice, grounds)]


def fault_of_mend(claim, paper):
    """The first fault of a paper that shows a claim "mend"."""
    n = claim[6]
    if n is None:
        return fault_of_breaks(claim, None, paper)
    if not is_tuple(paper, 3, 3):
        return NO_FORM
    choice, grounds, breaks = paper
    return first_of([*faults_of_choice(claim, choice, grounds, False), fault_of_breaks(claim, n, breaks)])


def fault_of_no_mend(claim, paper):
    """The first fault of a paper that breaks a claim "mend"."""
    n = claim[6]
    if is_tuple(paper, 3, 3) and paper[0] == "less":
        return first_of(faults_of_choice(claim, paper[1], paper[2], True))
    if is_tuple(paper, 2, 2) and paper[0] == "more" and n is not None:
        return fault_of_breaks(claim, n + 1, paper[1])
    return NO_FORM


def fault_of_shown(claim, paper):
    """The first fault of any value as a paper that shows a valid claim."""
    word, kinds, ban, first = claim[:4]
    if word == "within":
        return fault_of_hits(paper, first, claim[4], ban)
    if word == "kept":
        return fault_of_kept(paper, first, claim[4], ban)
    if word == "same":
        return fault_of_same(paper, kinds, first, claim[4], ban)
    if word == "settled":
        return fault_of_same(paper, kinds, first, first + first, ban)
    if word == "untouched":
        return fault_of_untouched(paper, first, claim[4], ban)
    return fault_of_mend(claim, paper)


def fault_of_broken(claim, paper):
    """The first fault of any value as a paper that breaks a valid claim."""
    word, kinds, ban, first = claim[:4]
    if word == "within":
        return fault_of_parted(paper, kinds, first, claim[4], ban)
    if word == "kept":
        return fault_of_not_kept(paper, kinds, first, claim[4], ban)
    if word == "same":
        return fault_of_not_same(paper, kinds, first, claim[4], ban)
    if word == "settled":
        return fault_of_not_same(paper, kinds, first, first + first, ban)
    if word == "untouched":
        return fault_of_touched(paper, kinds, first, claim[4], ban)
    return fault_of_no_mend(claim, paper)


def first_fault(certificate):
    """The first fault of any value as a certificate, or None."""
    if not is_tuple(certificate, 3, 3):
        return NO_CERTIFICATE
    verdict, claim, paper = certificate
    if not is_claim(claim):
        return NO_CLAIM
    if verdict == SHOWN:
        return fault_of_shown(claim, paper)
    return fault_of_broken(claim, paper) if verdict == BROKEN else NO_FORM
