"""What holds of programs on all stores that keep a ban."""

from backasked.papers import SHOWN, kept_paper, same_paper, untouched_paper


def is_kept(program, other, ban, *, tries=300):
    """Whether a program keeps the other ban under a ban."""
    return kept_paper(program, other, ban, tries)[0] == SHOWN


def are_same(kinds, one, other, ban, *, tries=300):
    """Whether two programs are the same under a ban."""
    return same_paper(kinds, one, other, ban, tries)[0] == SHOWN


def is_untouched(program, question, ban, *, tries=300):
    """Whether a question is untouched by a program under a ban."""
    return untouched_paper(program, question, ban, tries)[0] == SHOWN


def is_idle(kinds, program, index, ban, *, tries=300):
    """Whether the deed of a program with an index is idle under a ban."""
    return are_same(kinds, program, program[:index] + program[index + 1:], ban, tries=tries)


def can_exchange(kinds, program, index, ban, *, tries=300):
    """Whether the deed of a program with an index and the next one can be exchanged under a ban."""
    exchanged = (*program[:index], program[index + 1], program[index], *program[index + 2:])
    return are_same(kinds, program, exchanged, ban, tries=tries)


def is_settled(kinds, program, ban, *, tries=300):
    """Whether a program is settled under a ban."""
    return are_same(kinds, program, program + program, ban, tries=tries)
