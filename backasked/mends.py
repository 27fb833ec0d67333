"""Wishes, options, and the cheapest changes by which a program keeps all wishes."""

from backasked.errors import InvalidOptions, InvalidWishes
from backasked.forms import is_integer, is_tuple
from backasked.papers import BROKEN, SHOWN, kept_paper, same_paper
from backasked.programs import MOST_DEEDS, is_deed, run
from backasked.stores import is_fact
from backasked.validity import is_ban, is_program, is_store

MOST_FACTS = 60
MOST_COST = 99
MOST_ROWS = 3


def is_wish(kinds, value):
    """Whether any value is a wish for the kinds."""
    if not is_tuple(value, 2, 3):
        return False
    if len(value) == 2:
        word, wished = value
        return word == "keeps" and is_ban(kinds, wished) or word == "same" and is_program(kinds, wished)
    word, store, fact = value
    return word in ("leads", "spares") and is_store(kinds, store, MOST_FACTS) and is_fact(kinds, fact)


def is_option(kinds, program, value):
    """Whether any value is an option for a program."""
    if not is_tuple(value, 3, 4) or not is_integer(value[-1], 0, MOST_COST):
        return False
    if len(value) == 3:
        return value[0] == "drop" and is_integer(value[1], 0, len(program) - 1)
    return value[0] == "put" and is_integer(value[1], 0, len(program)) and is_deed(kinds, value[2])


def require_wishes(kinds, value):
    """Return any value that is a tuple of 1 to 3 wishes; raise InvalidWishes for any other one."""
    if not is_tuple(value, 1, MOST_ROWS):
        raise InvalidWishes(None)
    for index, wish in enumerate(value):
        if not is_wish(kinds, wish):
            raise InvalidWishes(index)
    return value


def require_options(kinds, program, value):
    """Return any value that is a tuple of 1 to 3 options for a program; raise InvalidOptions for any other one."""
    if not is_tuple(value, 1, MOST_ROWS):
        raise InvalidOptions(None)
    for index, option in enumerate(value):
        if not is_option(kinds, program, option):
            raise InvalidOptions(index)
    return value


def cost_of(options, choice):
    """The cost of a choice."""
    return sum([options[index][-1] for index in choice])


def is_allowed(program, options, chosen):
    """Whether a strictly ascending tuple of indices of options is a choice."""
    dropped = [options[index][1] for index in chosen if options[index][0] == "drop"]
    many = len(program) + len(chosen) - 2 * len(dropped)
    return len(set(dropped)) == len(dropped) and many <= MOST_DEEDS


def all_choices(program, options):
    """The list of all choices in their order."""
    rows = [()]
    for index in range(len(options)):
        rows.extend([(*chosen, index) for chosen in list(rows)])
    told = [(cost_of(options, chosen), chosen) for chosen in rows if is_allowed(program, options, chosen)]
    return [chosen for _, chosen in sorted(told)]


def choices(program, options):
    """A generator of all choices in their order."""
    yield from all_choices(program, options)


def choices_below(program, options, cost):
    """The list of the choices that cost less than this, in their order; all of them for None."""
    return [chosen for chosen in all_choices(program, options) if cost is None or cost_of(options, chosen) < cost]


def with_choice(program, options, choice):
    """The program as a choice changes it."""
    chosen = [options[index] for index in choice]
    changed = []
    for index in range(len(program) + 1):
        changed.extend([option[2] for option in chosen if option[0] == "put" and option[1] == index])
        dropped = any([option[0] == "drop" and option[1] == index for option in chosen])
        if index < len(program) and not dropped:
            changed.append(program[index])
    return tuple(changed)


def is_met_by(wish, after):
    """Whether a store after a program has the fact that "leads" asks for, or has not the one of "spares"."""
    word, _, fact = wish
    return (fact in after) == (word == "leads")


def wish_paper(kinds, program, wish, ban, tries):
    """The verdict whether a program keeps a wish, and its paper; raise LimitExceeded."""
    if wish[0] == "keeps":
        return kept_paper(program, wish[1], ban, tries)
    if wish[0] == "same":
        return same_paper(kinds, program, wish[1], ban, tries)
    after = run(program, wish[1])
    return (SHOWN if is_met_by(wish, after) else BROKEN, after)


def keeps_wish(kinds, program, wish, ban, *, tries=300):
    """Whether a program keeps a wish under a ban; raise LimitExceeded."""
    return wish_paper(kinds, program, wish, ban, tries)[0] == SHOWN


def wishes_paper(kinds, program, wishes, ban, tries):
    """The verdict whether a program keeps all wishes, with the grounds, or with the break of the first not kept."""
    grounds = []
    for index, wish in enumerate(wishes):
        verdict, paper = wish_paper(kinds, program, wish, ban, tries)
        if verdict == BROKEN:
            return (BROKEN, (index, paper))
        grounds.append(paper)
    return (SHOWN, tuple(grounds))


def mended(kinds, program, wishes, options, ban, tries):
    """The triple (choice, grounds, breaks): the first choice that mends, if none None, and breaks for those before."""
    breaks = []
    for choice in all_choices(program, options):
        changed = with_choice(program, options, choice)
        verdict, paper = wishes_paper(kinds, changed, wishes, ban, tries)
        if verdict == SHOWN:
            return (choice, paper, tuple(breaks))
        breaks.append(paper)
    return (None, None, tuple(breaks))


def cheapest_mend(kinds, program, wishes, options, ban, *, tries=300):
    """The first choice by which a program keeps all wishes, or None; raise LimitExceeded."""
    return mended(kinds, program, wishes, options, ban, tries)[0]
