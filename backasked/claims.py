"""Claims about questions and programs, and certificates that decide them."""

from backasked.errors import InvalidClaim, InvalidOptions, InvalidWishes
from backasked.forms import is_integer, is_tuple
from backasked.mends import choices_below, cost_of, mended, require_options, require_wishes
from backasked.papers import BROKEN, SHOWN, kept_paper, same_paper, untouched_paper, within_paper
from backasked.validity import is_ban, is_program, is_question

MOST_KINDS = 4
MOST_THINGS = 2
MOST_N = 300
# The names of what stands behind the word in each row of claims.
NAMES = {
    "within": ("kinds", "ban", "first", "second"),
    "kept": ("kinds", "ban", "program", "other"),
    "same": ("kinds", "ban", "one", "other"),
    "settled": ("kinds", "ban", "program"),
    "untouched": ("kinds", "ban", "program", "question"),
    "mend": ("kinds", "ban", "program", "wishes", "options", "n"),
}


def are_kinds(value):
    """Whether any value is a tuple of kinds."""
    return is_tuple(value, 1, MOST_KINDS) and all([is_integer(many, 0, MOST_THINGS) for many in value])


def are_wishes(kinds, value):
    """Whether any value is a tuple of 1 to 3 wishes."""
    try:
        require_wishes(kinds, value)
    except InvalidWishes:
        return False
    return True


def are_options(kinds, program, value):
    """Whether any value is a tuple of 1 to 3 options for a program."""
    try:
        require_options(kinds, program, value)
    except InvalidOptions:
        return False
    return True


def is_right(claim, name, value):
    """Whether any value is right under a name of a claim's row, where all that stands before it is right."""
    word, kinds = claim[:2]
    if name == "kinds":
        return are_kinds(value)
    if name == "ban" or name == "other" and word == "kept":
        return is_ban(kinds, value)
    if name in ("program", "one", "other"):
        return is_program(kinds, value)
    if name in ("first", "question"):
        return is_question(kinds, value)
    if name == "second":
        return is_question(kinds, value) and value[0] == claim[3][0]
    if name == "wishes":
        return are_wishes(kinds, value)
    if name == "options":
        return are_options(kinds, claim[3], value)
    return value is None or is_integer(value, 0, MOST_N)


def require_claim(claim):
    """Return any value that is a valid claim; raise InvalidClaim for any other one."""
    if type(claim) is not tuple or not claim or type(claim[0]) is not str or claim[0] not in NAMES:
        raise InvalidClaim(None)
    names = NAMES[claim[0]]
    if len(claim) != 1 + len(names):
        raise InvalidClaim(None)
    for name, value in zip(names, claim[1:]):
        if not is_right(claim, name, value):
            raise InvalidClaim(name)
    return claim


def mend_paper(claim, tries):
    """The verdict on a valid claim "mend", and its paper; raise LimitExceeded."""
    _, kinds, ban, program, wishes, options, n = claim
    choice, grounds, breaks = mended(kinds, program, wishes, options, ban, tries)
    cost = None if choice is None else cost_of(options, choice)
    if cost is None and n is None:
        return (SHOWN, breaks)
    if cost is None or n is not None and cost > n:
        return (BROKEN, ("more", breaks[:len(choices_below(program, options, n + 1))]))
    if cost == n:
        return (SHOWN, (choice, grounds, breaks[:len(choices_below(program, options, n))]))
    return (BROKEN, ("less", choice, grounds))


def paper_on(claim, tries):
    """The verdict on a valid claim, and its paper; raise LimitExceeded."""
    word, kinds, ban, first = claim[:4]
    if word == "within":
        return within_paper(first, claim[4], ban, tries)
    if word == "kept":
        return kept_paper(first, claim[4], ban, tries)
    if word == "same":
        return same_paper(kinds, first, claim[4], ban, tries)
    if word == "settled":
        return same_paper(kinds, first, first + first, ban, tries)
    if word == "untouched":
        return untouched_paper(first, claim[4], ban, tries)
    return mend_paper(claim, tries)


def decide(claim, *, tries=300):
    """A certificate for any value that is a valid claim; raise InvalidClaim, LimitExceeded."""
    verdict, paper = paper_on(require_claim(claim), tries)
    return (verdict, claim, paper)
