"""What comparisons tell, with the papers that show it: hits for all ways, or a store on which it is not so."""

from backasked.answers import head_with
from backasked.comparing import compared_questions
from backasked.leading import led_back
from backasked.questions import no_ban, question_of
from backasked.ways import facts_of

SHOWN = "shown"
BROKEN = "broken"


def within_paper(first, second, ban, tries):
    """The verdict whether a question is within another one, and its paper."""
    parting, hits = compared_questions(first, second, ban, tries)
    if parting is None:
        return (SHOWN, hits)
    index, values = parting
    part = first[1][index]
    return (BROKEN, (facts_of(part, values), head_with(part, values)))


def alike_paper(one, other, ban, tries):
    """The verdict whether two questions are alike, and the pair of the hits, or a store with unlike answers."""
    hits = []
    for first, second in ((one, other), (other, one)):
        verdict, paper = within_paper(first, second, ban, tries)
        if verdict == BROKEN:
            return (BROKEN, paper[:1])
        hits.append(paper)
    return (SHOWN, tuple(hits))


def kept_paper(program, other, ban, tries):
    """The verdict whether a program keeps the other ban, and its paper."""
    verdict, paper = within_paper(led_back(program, other, tries=tries), no_ban(), ban, tries)
    return (verdict, paper) if verdict == SHOWN else (BROKEN, paper[:1])


def same_paper(kinds, one, other, ban, tries):
    """The verdict whether two programs are the same, and its paper."""
    pairs = []
    for kind in range(len(kinds)):
        question = question_of(kinds, kind)
        after_one = led_back(one, question, tries=tries)
        after_other = led_back(other, question, tries=tries)
        verdict, paper = alike_paper(after_one, after_other, ban, tries)
        if verdict == BROKEN:
            return (BROKEN, paper)
        pairs.append(paper)
    return (SHOWN, tuple(pairs))


def untouched_paper(program, question, ban, tries):
    """The verdict whether a question is untouched by a program, and its paper."""
    after = led_back(program, question, tries=tries)
    return alike_paper(after, led_back((), question), ban, tries)
