"""Deeds, parts and bans, in few words, and some that many tests use; the kinds are those of most tests."""

KINDS = (2, 1, 0)


def put(atom, *body, unlike=()):
    return ("put", atom, body, unlike)


def take(atom, *unlike):
    return ("take", atom, unlike)


def turn(atom, terms, *unlike):
    return ("turn", atom, unlike, terms)


def part_of(*body, head=(), unlike=()):
    return (head, body, unlike)


def ban_of(*body, unlike=()):
    """A ban of one part."""
    return (0, (part_of(*body, unlike=unlike),))


def question_of_parts(arity, *parts):
    return (arity, tuple(sorted(set(parts))))


def unary(*variables, kind=1):
    """A part of arity 0 with one atom of one term for each variable."""
    return part_of(*[(kind, (variable,)) for variable in variables])


LOOPS = put((0, (-1, -1)), (1, (-1,)))
DROP = take((0, (-1, 3)))
SWAP = turn((0, (-1, -2)), (-2, -1), (-2, 3))
NO_LOOPS = ban_of((0, (-1, -1)))
