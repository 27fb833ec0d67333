"""Claims of each row, right ones and ones that are not so, small enough to be looked at by hand."""

from builders import DROP, KINDS, LOOPS, NO_LOOPS, SWAP, ban_of, part_of, put, take, turn

from backasked.questions import no_ban, question_of

STORE = ((0, (3, 4)), (1, (5,)))
WIDE = (1, (part_of((0, (-1, -2)), head=(-1,)),))
LOOP = (1, (part_of((0, (-1, -1)), head=(-1,)),))
UNLIKE = ban_of((0, (-1, -2)), unlike=((-2, -1),))
EMPTIED = take((1, (-1,)))
KEEPS = ("keeps", NO_LOOPS)
LEADS = ("leads", STORE, (1, (5,)))
SPARES = ("spares", STORE, (1, (5,)))
# Either mends for the wish: dropping costs 5, the take in front costs 2.
OPTIONS = (("drop", 0, 5), ("put", 0, EMPTIED, 2))


def mend(n, *wishes, program=(LOOPS,), options=OPTIONS, ban=NO_LOOPS):
    return ("mend", KINDS, ban, program, wishes or (KEEPS,), options, n)


# Pairs of a claim and whether it is so.
CLAIMS = (
    (("within", KINDS, no_ban(), LOOP, WIDE), True),
    (("within", KINDS, UNLIKE, WIDE, LOOP), True),
    (("within", KINDS, no_ban(), WIDE, LOOP), False),
    (("within", KINDS, NO_LOOPS, WIDE, LOOP), False),
    (("within", KINDS, no_ban(), (2, ()), (2, ())), True),
    (("within", KINDS, NO_LOOPS, no_ban(), NO_LOOPS), True),
    (("kept", KINDS, NO_LOOPS, (LOOPS,), NO_LOOPS), False),
    (("kept", KINDS, NO_LOOPS, (EMPTIED, LOOPS), NO_LOOPS), True),
    (("kept", KINDS, NO_LOOPS, (SWAP,), NO_LOOPS), True),
    (("kept", KINDS, no_ban(), (), no_ban()), True),
    (("kept", KINDS, no_ban(), (put((2, ())),), ban_of((2, ()))), False),
    (("same", KINDS, no_ban(), (LOOPS,), (LOOPS, LOOPS)), True),
    (("same", KINDS, no_ban(), (LOOPS, DROP), (DROP, LOOPS)), False),
    (("same", KINDS, ban_of((1, (3,))), (LOOPS, DROP), (DROP, LOOPS)), True),
    (("same", KINDS, no_ban(), (), (put((2, ())),)), False),
    (("same", KINDS, no_ban(), (SWAP,), (SWAP, DROP)), False),
    (("settled", KINDS, no_ban(), (LOOPS, DROP)), True),
    (("settled", KINDS, no_ban(), (SWAP,)), False),
    (("settled", KINDS, NO_LOOPS, ()), True),
    (("settled", KINDS, no_ban(), (turn((1, (4,)), (5,)), turn((1, (3,)), (4,)))), False),
    (("untouched", KINDS, no_ban(), (LOOPS,), question_of(KINDS, 1)), True),
    (("untouched", KINDS, no_ban(), (LOOPS,), question_of(KINDS, 0)), False),
    (("untouched", KINDS, ban_of((1, (-1,))), (LOOPS,), question_of(KINDS, 0)), True),
    (("untouched", KINDS, no_ban(), (DROP,), question_of(KINDS, 0)), False),
    (mend(2), True),
    (mend(0), False),
    (mend(1), False),
    (mend(3), False),
    (mend(None), False),
    (mend(5, KEEPS, LEADS), True),
    (mend(4, KEEPS, LEADS), False),
    (mend(2, KEEPS, SPARES, ("same", (EMPTIED,))), True),
    (mend(None, LEADS, SPARES), True),
    (mend(300, LEADS, SPARES), False),
    (mend(7, LEADS, SPARES), False),
    (mend(0, LEADS, SPARES), False),
    (mend(0, KEEPS, program=(DROP,)), True),
    (mend(None, ("same", (SWAP,)), program=(LOOPS,)), True),
    (mend(0, ("same", (LOOPS, LOOPS)), ban=no_ban()), True),
)
