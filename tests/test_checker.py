"""The first fault of a certificate: points 2, 3 and 17, and the interface of checker.py."""

import unittest

from builders import DROP, KINDS, LOOPS, NO_LOOPS, SWAP, ban_of, part_of, put, question_of_parts, take, unary
from literal import literal_decided, outcome
from literal_faults import literal_fault
from models import Draws
from samples import CLAIMS, EMPTIED, KEEPS, LEADS, LOOP, SPARES, STORE, WIDE, mend
from test_comparing import ALL_KNOWN, HUGE, THOUSAND
from variations import OTHER_VALUES, Unchanged, at, deep, exchanged, of_other_kinds, places, same_but_wrong, shape

from backasked.answers import keeps
from backasked.checker import first_fault
from backasked.claims import decide
from backasked.mends import choices
from backasked.programs import run
from backasked.questions import no_ban, question_of
from backasked.stores import require_store
from backasked.ways import ways_of

WITHIN = ("within", KINDS, no_ban(), WIDE, LOOP)
KEPT = ("kept", KINDS, NO_LOOPS, (EMPTIED, LOOPS), NO_LOOPS)
NOT_KEPT = ("kept", KINDS, NO_LOOPS, (LOOPS,), NO_LOOPS)
SAME = ("same", KINDS, no_ban(), (LOOPS,), (LOOPS, LOOPS))
NOT_SAME = ("same", KINDS, NO_LOOPS, (LOOPS,), (DROP,))
SETTLED = ("settled", KINDS, no_ban(), (LOOPS,))
NOT_SETTLED = ("settled", KINDS, NO_LOOPS, (SWAP,))
UNTOUCHED = ("untouched", KINDS, no_ban(), (SWAP,), ban_of((0, (-1, -2))))
TOUCHED = ("untouched", KINDS, NO_LOOPS, (LOOPS,), question_of(KINDS, 0))
# Stores of 12 and 13 facts without loops.
TWELVE = (*[(0, (0, thing)) for thing in range(1, 12)], (1, (5,)))
THIRTEEN = (*[(0, (0, thing)) for thing in range(1, 13)], (1, (5,)))
BANNED = ((0, (3, 3)), (1, (5,)))


class CheckerCase(unittest.TestCase):
    def assert_fault(self, certificate, *expected):
        """The words of the fault, or None."""
        fault = None if expected == (None,) else expected
        with Unchanged(self, certificate):
            self.assertEqual(shape(first_fault(certificate)), shape(fault), str(certificate)[:1000])

    def assert_unformed(self, verdict, claim, *papers):
        for paper in papers:
            self.assert_fault((verdict, claim, paper), "paper")


class CertificateTest(CheckerCase):
    def test_example_of_the_interface(self):
        verdict, claim, paper = decide(("kept", (2, 1), NO_LOOPS, (LOOPS,), NO_LOOPS))
        told = (verdict, first_fault((verdict, claim, paper)), first_fault(("shown", claim, ())))
        self.assertEqual(shape(told), shape(("broken", None, ("paper",))))

    def test_no_triple(self):
        right = decide(NOT_KEPT)
        for value in (*OTHER_VALUES, 0, 7, (), right[:2], (*right, ()), list(right), {"broken": right}, (right,), right[2],
                      choices((), ()), ways_of(part_of(), ()), object(), deep(40)[0] + ((),)):
            self.assert_form(value)

    def assert_form(self, value):
        self.assertEqual(shape(first_fault(value)), shape(("form",)))

    def test_no_claim(self):
        verdict, claim, paper = decide(NOT_KEPT)
        for value in (*OTHER_VALUES, (), claim[:-1], (*claim, ()), list(claim), claim[::-1], (verdict, claim, paper),
                      (*claim[:-1], (1, ())), (True, *claim[1:]), ("keeps", *claim[1:]), deep(39)):
            self.assert_fault((verdict, value, paper), "claim")
            # The claim comes before the verdict and the paper.
            self.assert_fault((None, value, None), "claim")
            self.assert_fault(("shown", value, paper), "claim")

    def test_no_claim_at_each_depth(self):
        for claim in (WITHIN, KEPT, SAME, SETTLED, UNTOUCHED, mend(2, KEEPS, SPARES)):
            certificate = decide(claim)
            for path, changed in [*same_but_wrong(claim), *of_other_kinds(claim)]:
                if shape(changed) != shape(mend(None, KEEPS, SPARES)):
                    self.assert_fault(exchanged(certificate, (1,), changed), "claim")

    def test_verdicts(self):
        for claim in (WITHIN, KEPT, SAME, SETTLED, UNTOUCHED, mend(2), mend(1), mend(None)):
            _, told, paper = decide(claim)
            for verdict in (*OTHER_VALUES, "Shown", "broke", "", 0, 1, ("shown",), ["broken"], "kept", deep(39)):
                self.assert_fault((verdict, told, paper), "paper")

    def test_the_other_verdict(self):
        for claim, _ in CLAIMS:
            verdict, told, paper = decide(claim)
            other = {"shown": "broken", "broken": "shown"}[verdict]
            self.assertIsNotNone(first_fault((other, told, paper)), claim)

    def test_right_papers_that_decide_would_not_tell(self):
        for verdict, claim, paper in (
                ("shown", ("within", KINDS, NO_LOOPS, LOOP, WIDE), ((("ban", 0, (0,)),),)),
                ("shown", ("within", KINDS, NO_LOOPS, LOOP, WIDE), ((("answer", 0, (0, 0)),),)),
                ("broken", WITHIN, (((0, (7, 29)),), (7,))),
                ("broken", WITHIN, (TWELVE, (0,))),
                ("broken", NOT_KEPT, (TWELVE,)),
                ("broken", NOT_SAME, (((0, (8, 3)),),)),
                ("broken", NOT_SETTLED, (((0, (3, 7)), (0, (8, 9))),)),
                ("broken", TOUCHED, (TWELVE,)),
                # Another choice of the same cost, and another wish that is not kept.
                ("shown", mend(0, LEADS, options=(("drop", 0, 0),)), ((0,), (STORE,), ())),
                ("broken", mend(None, LEADS, options=(("drop", 0, 0),)), ("less", (0,), (STORE,)))):
            self.assert_fault((verdict, claim, paper), None)

    def test_papers_of_other_kinds_at_each_depth(self):
        for claim, _ in CLAIMS:
            certificate = decide(claim)
            paper = certificate[2]
            for path, changed in [*same_but_wrong(paper), *of_other_kinds(paper)]:
                if shape(changed) != shape(paper):
                    self.assert_fault(exchanged(certificate, (2,), changed), "paper")

    def test_arguments_by_name(self):
        self.assertIsNone(first_fault(certificate=decide(KEPT)))


class HitsTest(CheckerCase):
    # Two parts, of 1 way and of 2 ways by the known things, of which there are none.
    FIRST = (1, (part_of((0, (-2, -2)), head=(-2,)), part_of((0, (-1, -2)), head=(-1,))))
    CLAIM = ("within", KINDS, NO_LOOPS, FIRST, (1, (part_of((0, (-1, -2)), head=(-1,)), part_of((1, (-1,)), head=(-1,)))))
    LOOPED, HIT, APART = ("ban", 0, (0,)), ("answer", 0, (0, 0)), ("answer", 0, (0, 1))
    PAPER = ((LOOPED,), (LOOPED, APART))

    def assert_hit(self, fault, *paper):
        self.assert_fault(("shown", self.CLAIM, paper), *([None] if fault is None else ["hit", *fault]))

    def test_hits(self):
        for one in (self.LOOPED, self.HIT):
            for other in (self.LOOPED, self.HIT):
                self.assert_hit(None, (one,), (other, self.APART))
        self.assertEqual(decide(self.CLAIM)[0], "shown")

    def test_as_many_as_told(self):
        self.assert_unformed(
            "shown", self.CLAIM, (), self.PAPER[:1], (*self.PAPER, ()), (*self.PAPER, self.PAPER[0]), self.PAPER[::-1],
            ((), self.PAPER[1]), (self.PAPER[0], self.PAPER[1][:1]), (self.PAPER[0], (*self.PAPER[1], self.HIT)),
            (self.PAPER,), self.PAPER[1])

    def test_forms(self):
        for wrong in (
                ("answers", 0, (0, 0)), ("", 0, (0, 0)), ("kept", 0, (0, 0)), (0, 0, (0, 0)), ("answer", 2, (0,)),
                ("answer", -1, (0, 0)), ("answer", None, (0, 0)), ("answer", False, (0, 0)), ("answer", 0, (0,)),
                ("answer", 0, (0, 0, 0)), ("answer", 0, (0, 30)), ("answer", 0, (0, -1)), ("answer", 0, (0, False)),
                ("answer", 0, [0, 0]), ("answer", 0), ("answer", 0, (0, 0), 0), ["answer", 0, (0, 0)], ("ban", 1, (0,)),
                ("ban", 0, (0, 0)), ("ban", 0, ()), ("ban", 0, (30,)), ("ban", True, (0,)), None, (), "answer"):
            self.assert_unformed("shown", self.CLAIM, ((wrong,), self.PAPER[1]), (self.PAPER[0], (self.HIT, wrong)))

    def test_values_are_things(self):
        # 29 is a thing, though no way has it; a term is no thing.
        self.assert_hit((0, 0), (("ban", 0, (29,)),), self.PAPER[1])
        self.assert_hit((0, 0), (("answer", 0, (0, 29)),), self.PAPER[1])

    def test_values_with_which_the_part_does_not_hold(self):
        self.assert_hit((0, 0), (("ban", 0, (1,)),), self.PAPER[1])
        self.assert_hit((1, 0), (self.LOOPED,), (self.APART, self.APART))
        self.assert_hit((1, 1), (self.LOOPED,), (self.LOOPED, self.LOOPED))
        self.assert_hit((1, 1), (self.LOOPED,), (self.LOOPED, self.HIT))
        self.assert_hit((1, 1), (self.LOOPED,), (self.LOOPED, ("answer", 1, (0,))))

    def test_another_head(self):
        claim = ("within", KINDS, no_ban(), LOOP, (1, (*LOOP[1], part_of((0, (-1, -1)), head=(3,)))))
        self.assert_fault(("shown", claim, ((("answer", 1, (0,)), ("answer", 1, (3,))),)), "hit", 0, 0)
        self.assert_fault(("shown", claim, ((("answer", 0, (0,)), ("answer", 1, (3,))),)), None)
        self.assert_fault(("shown", claim, ((("answer", 0, (0,)), ("answer", 0, (3,))),)), None)
        # The head of "ban" is not looked at, it has none.
        self.assert_hit(None, (self.LOOPED,), self.PAPER[1])

    def test_pairs_of_the_part_that_is_told(self):
        claim = ("within", KINDS, no_ban(), WIDE, (1, (part_of((0, (-1, -2)), head=(-1,), unlike=((-2, -1),)),)))
        self.assert_fault(("shown", claim, ((("answer", 0, (0, 0)), ("answer", 0, (0, 1))),)), "hit", 0, 0)

    def test_the_first_part_and_way(self):
        wrong = ("ban", 0, (1,))
        self.assert_hit((0, 0), (wrong,), (wrong, wrong))
        self.assert_hit((1, 0), (self.LOOPED,), (wrong, wrong))
        self.assert_hit((1, 1), (self.LOOPED,), (self.LOOPED, wrong))
        # A wrong form comes before all of these.
        self.assert_unformed("shown", self.CLAIM, ((wrong,), (wrong, ("ban", 0, (30,)))), ((wrong,), (wrong,)))

    def test_the_ways_are_those_by_the_things_known_by_all_three(self):
        claim = ("within", KINDS, ban_of((1, (0,))), LOOP, (1, (part_of((0, (-1, -1)), head=(-1,), unlike=((-1, 2),)),
                                                                part_of((0, (2, 2)), head=(2,)))))
        ways = ((0,), (1,), (2,))
        hits = tuple(("answer", 0, way) for way in ways[:2])
        self.assertEqual(at(claim, (4, 1, 0)), part_of((0, (-1, -1)), head=(-1,), unlike=((-1, 2),)))
        self.assert_fault(("shown", claim, ((*hits, ("answer", 1, ())),)), None)
        self.assert_fault(("shown", claim, ((*hits, ("answer", 0, (2,))),)), "hit", 0, 2)
        self.assert_fault(("shown", claim, (hits,)), "paper")

    def test_no_parts(self):
        claim = ("within", KINDS, no_ban(), (1, ()), WIDE)
        self.assert_fault(("shown", claim, ()), None)
        self.assert_unformed("shown", claim, ((),), None, [], 0)
        claim = ("within", KINDS, (0, (part_of(),)), WIDE, (1, ()))
        self.assert_fault(("shown", claim, ((("ban", 0, ()),) * 2,)), None)
        self.assert_unformed("shown", claim, ((("answer", 0, ()),) * 2,))

    def test_a_thousand_ways_and_one_more(self):
        def hits(question):
            return tuple(tuple(("answer", index, way) for way in ways_of(part, ()))
                         for index, part in enumerate(question[1]))
        more = question_of_parts(0, *THOUSAND[1], part_of((2, ())))
        self.assertEqual(sum(len(ways) for ways in hits(THOUSAND)), 1000)
        self.assert_fault(("shown", ("within", KINDS, no_ban(), THOUSAND, THOUSAND), hits(THOUSAND)), None)
        self.assert_unformed("shown", ("within", KINDS, no_ban(), more, more), hits(more), hits(THOUSAND))
        # The second question is not counted.
        index = more[1].index(part_of((2, ())))
        self.assert_fault(("shown", ("within", KINDS, no_ban(), ban_of((2, ())), more), ((("answer", index, ()),),)), None)
        # Also of kept, untouched and in a ground.
        for claim in (("kept", KINDS, more, (), more), ("untouched", KINDS, no_ban(), (), more)):
            self.assert_unformed("shown", claim, hits(more), (hits(more), hits(more)), decide(KEPT)[2])
        claim = mend(0, ("keeps", more), program=(DROP,), ban=no_ban())
        self.assert_unformed("shown", claim, ((), (hits(more),), ()))
        self.assert_fault(("shown", ("kept", KINDS, THOUSAND, (), THOUSAND), as_bans(hits(THOUSAND))), None)
        self.assert_fault(("shown", ("untouched", KINDS, no_ban(), (), THOUSAND), (hits(THOUSAND),) * 2), None)

    def test_very_many_ways(self):
        question = question_of_parts(0, HUGE, unary(-1))
        for paper in ((), ((), ()), ((("answer", 0, (0,) * 8),), ())):
            self.assert_unformed("shown", ("within", KINDS, ALL_KNOWN, question, question), paper)


def as_bans(hits):
    return tuple(tuple(("ban", index, values) for _, index, values in of_part) for of_part in hits)


class LimitTest(CheckerCase):
    """Where leading back meets the limit 1,000 nothing has the form of hits."""

    def test_choices(self):
        # A part of 6 atoms has 64 choices: 15 parts have 960, 16 have 1,024.
        pairs = [(a, b) for a in range(7) for b in range(a + 1, 7)]
        fits, over = ((0, tuple(part_of(*[(1, (-1,))] * 6, unlike=(pair,)) for pair in pairs[:many])) for many in (15, 16))
        program = (put((1, (3,))),)
        always = (0, (part_of(),))
        certificate = decide(("kept", KINDS, always, program, fits), tries=1000)
        self.assert_fault(certificate, None)
        self.assert_unformed("shown", ("kept", KINDS, always, program, over), certificate[2], ())
        self.assert_unformed("shown", ("untouched", KINDS, always, program, over), (certificate[2],) * 2, ((), ()))
        self.assert_unformed("shown", mend(0, ("keeps", over), program=program, ban=always), ((), (certificate[2],), ()))
        # Broken, it needs no leading back.
        self.assert_fault(("broken", ("kept", KINDS, no_ban(), program, over), (((1, (3,)),),)), None)

    def test_parts_that_are_too_large(self):
        # Each atom of the question would become two of the deed's body.
        deed = put((1, (-1,)), (0, (-1, -2)), (2, ()))
        large = (0, (unary(-1, -2, -3, -4, -5, -6),))
        always = (0, (part_of(),))
        self.assert_unformed("shown", ("kept", KINDS, always, (deed,), large), (), ((("ban", 0, ()),),))
        small = (0, (unary(-1, -2),))
        self.assert_fault(decide(("kept", KINDS, always, (deed,), small)), None)


class StoreTest(CheckerCase):
    ROWS = (
        (WITHIN, lambda store: (store, (0,)), ((0, (0, 0)), (0, (0, 1))), ((1, (0,)),)),
        (NOT_KEPT, lambda store: (store,), ((0, (0, 1)),), ()),
        (NOT_SAME, lambda store: (store,), ((0, (0, 1)),), ()),
        (NOT_SETTLED, lambda store: (store,), ((0, (3, 3)),), ((0, (1, 3)),)),
        (TOUCHED, lambda store: (store,), ((0, (0, 1)),), ()),
    )

    def test_stores_on_which_the_claim_holds(self):
        for claim, paper, *stores in self.ROWS:
            for store in stores:
                require_store(KINDS, store)
                expected = "same" if keeps(claim[2], store) else "ban"
                self.assert_fault(("broken", claim, paper(store)), expected)

    def test_twelve_and_thirteen_facts(self):
        for store, fits in ((TWELVE, True), (THIRTEEN, False)):
            require_store(KINDS, store)
            for claim, paper in ((WITHIN, lambda store: (store, (0,))), *[
                    (claim, lambda store: (store,)) for claim in (NOT_KEPT, NOT_SAME, TOUCHED)]):
                self.assert_fault(("broken", claim, paper(store)), None if fits else "paper")
        thirteen = tuple((0, (1, thing)) for thing in range(2, 15))
        self.assert_fault(("broken", NOT_SETTLED, (thirteen[:12],)), None)
        self.assert_fault(("broken", NOT_SETTLED, (thirteen,)), "paper")

    def test_forms(self):
        store = ((0, (0, 1)), (1, (5,)))
        wrong = (store[::-1], store + store[1:], list(store), ((0, (0, 30)),), ((0, (0,)),), ((3, ()),), ((True, (5,)),),
                 ((1, (True,)),), store[0], None, "", {}, 0)
        for claim, paper, *_ in self.ROWS:
            for value in wrong:
                self.assert_unformed("broken", claim, paper(value))
            self.assert_unformed("broken", claim, store, (), (store, store, store), [store], None, ((),) * 3)
        for claim in (NOT_KEPT, NOT_SAME, NOT_SETTLED, TOUCHED):
            self.assert_unformed("broken", claim, (store, (0,)), (store, ()), [store])
        self.assert_unformed("broken", WITHIN, (store,))

    def test_answers(self):
        store = ((0, (0, 1)),)
        for wrong in ((), (0, 0), [0], 0, (30,), (-1,), (False,), (None,), ((0,),), "0"):
            self.assert_unformed("broken", WITHIN, (store, wrong))
        self.assert_fault(("broken", WITHIN, (store, (0,))), None)
        # No answer of the first question, and one of the second one.
        self.assert_fault(("broken", WITHIN, (store, (1,))), "same")
        self.assert_fault(("broken", WITHIN, (((0, (0, 0)),), (0,))), "same")
        self.assert_fault(("broken", WITHIN, ((*store, (0, (1, 1))), (0,))), None)
        self.assert_fault(("broken", WITHIN, ((*store, (0, (1, 1))), (1,))), "same")
        self.assert_fault(("broken", ("within", KINDS, no_ban(), ban_of((2, ())), no_ban()), (((2, ()),), ())), None)
        self.assert_fault(("broken", ("within", KINDS, no_ban(), ban_of((2, ())), no_ban()), (((2, ()),), (0,))), "paper")

    def test_the_ban_comes_before_the_claim(self):
        # These stores break the ban, and the claim holds on them, too.
        banned = ("within", KINDS, NO_LOOPS, WIDE, LOOP)
        self.assert_fault(("broken", banned, (BANNED, (3,))), "ban")
        self.assert_fault(("broken", banned, (BANNED, (4,))), "ban")
        self.assert_fault(("broken", banned, (((0, (3, 4)),), (4,))), "same")
        self.assert_fault(("broken", NOT_KEPT, (BANNED,)), "ban")
        self.assert_fault(("broken", NOT_KEPT, (BANNED[:1],)), "ban")
        self.assert_fault(("broken", NOT_SAME, (BANNED[:1],)), "ban")
        self.assert_fault(("broken", NOT_SETTLED, (((0, (4, 4)),),)), "ban")
        self.assert_fault(("broken", TOUCHED, (BANNED,)), "ban")
        # A wrong form comes before the ban.
        self.assert_fault(("broken", NOT_KEPT, ((*BANNED, (1, (5,))),)), "paper")
        self.assert_fault(("broken", banned, (BANNED, (30,))), "paper")

    def test_kept(self):
        self.assert_fault(("broken", NOT_KEPT, (((1, (5,)),),)), None)
        self.assert_fault(("broken", NOT_KEPT, (((0, (5, 6)),),)), "same")
        self.assert_fault(("broken", KEPT, (((1, (5,)),),)), "same")

    def test_same_and_settled(self):
        self.assert_fault(("broken", NOT_SAME, (((1, (5,)),),)), None)
        self.assert_fault(("broken", NOT_SAME, (((0, (5, 3)),),)), None)
        self.assert_fault(("broken", NOT_SAME, (((0, (3, 5)),),)), "same")
        self.assert_fault(("broken", NOT_SETTLED, (((0, (4, 5)),),)), None)
        self.assert_fault(("broken", NOT_SETTLED, (((0, (4, 5)), (0, (5, 4))),)), "same")
        self.assert_fault(("broken", SETTLED, (((1, (5,)),),)), "same")
        self.assert_fault(("broken", SAME, (((1, (5,)),),)), "same")

    def test_untouched(self):
        self.assert_fault(("broken", TOUCHED, (((1, (5,)),),)), None)
        self.assert_fault(("broken", TOUCHED, (((0, (5, 6)),),)), "same")
        self.assert_fault(("broken", UNTOUCHED, (((0, (5, 6)),),)), "same")


class PairsTest(CheckerCase):
    def test_same_and_settled(self):
        for claim in (SAME, SETTLED, ("same", KINDS, NO_LOOPS, (LOOPS, DROP), (LOOPS, LOOPS, DROP))):
            certificate = decide(claim)
            paper = certificate[2]
            self.assertEqual(certificate[0], "shown")
            self.assertEqual([len(pair) for pair in paper], [2, 2, 2])
            self.assert_unformed(
                "shown", claim, paper[:2], (*paper, paper[2]), paper[::-1], (paper[0], paper[1], paper[2][:1]),
                (paper[0], (*paper[1], paper[1][0]), paper[2]), (paper[0][0], paper[1], paper[2]), ())
            for k, pair in enumerate(paper):
                for i, hits in enumerate(pair):
                    for p, of_part in enumerate(hits):
                        for w, (word, index, values) in enumerate(of_part):
                            for value in wrong_hits(word, index, values):
                                wrong = exchanged(certificate, (2, k, i, p, w), value)
                                self.assert_fault(wrong, "kind", k, i, ("hit", p, w))

    def test_the_first_kind_and_side(self):
        certificate = decide(SAME)
        wrong = ("answer", 0, (7, 7))
        paths = ((2, 0, 0, 0, 0), (2, 0, 1, 0, 0))
        both = certificate
        for path in reversed(paths):
            both = exchanged(both, path, wrong)
            self.assert_fault(both, "kind", 0, path[2], ("hit", 0, 0))
        last = exchanged(certificate, (2, 1, 1, 0, 0), ("answer", 0, (7,)))
        self.assert_fault(last, "kind", 1, 1, ("hit", 0, 0))
        self.assert_fault(exchanged(last, paths[1], wrong), "kind", 0, 1, ("hit", 0, 0))
        # A wrong form in the last kind comes before all of these.
        self.assert_fault(exchanged(both, (2, 2, 1, 0, 0), ("answer", 0, (7,))), "paper")
        self.assert_fault(exchanged(both, (2, 2, 1, 0), ()), "paper")

    def test_untouched(self):
        certificate = decide(UNTOUCHED)
        paper = certificate[2]
        self.assert_unformed("shown", UNTOUCHED, paper[:1], (*paper, paper[0]), paper[0], (), (paper,), paper[::-1])
        wrong = ("answer", 0, (7, 7))
        there, back = exchanged(certificate, (2, 0, 0, 0), wrong), exchanged(certificate, (2, 1, 0, 0), wrong)
        self.assert_fault(there, "side", 0, ("hit", 0, 0))
        self.assert_fault(back, "side", 1, ("hit", 0, 0))
        self.assert_fault(exchanged(there, (2, 1, 0, 0), wrong), "side", 0, ("hit", 0, 0))
        self.assert_fault(exchanged(there, (2, 1, 0, 0), wrong[:2]), "paper")

    def test_the_question_in_normal_form(self):
        question = (0, (part_of((1, (-4,)), (1, (-4,)), unlike=((8, 9),)),))
        hits = ((("answer", 0, (0,)),),)
        self.assert_fault(("shown", ("untouched", KINDS, no_ban(), (), question), (hits, hits)), None)
        more = ((("answer", 0, (0,)), ("answer", 0, (8,)), ("answer", 0, (9,))),)
        self.assert_unformed("shown", ("untouched", KINDS, no_ban(), (), question), (more, more))

    def test_the_shift_is_that_of_the_one_program_first(self):
        # Through the one program the question of the kind has two parts, through the other one just one.
        claim = ("same", (1,), ban_of((0, (3,))), (put((0, (3,)), (0, (3,))),), ())
        verdict, _, ((there, back),) = decide(claim)
        self.assertEqual((verdict, len(there), len(back)), ("shown", 2, 1))
        self.assert_fault((verdict, claim, ((there, back),)), None)
        self.assert_fault((verdict, claim, ((back, there),)), "paper")


def wrong_hits(word, index, values):
    """Hits of the right form that are none: no way of the tests has the things 28 and 29."""
    return [(word, index, (29,) * len(values))] if values else []


class MendTest(CheckerCase):
    WISHES = (KEEPS, LEADS, ("same", (LOOPS,)))
    STAYS = (("put", 0, EMPTIED, 2), ("drop", 0, 5), ("put", 1, take((0, (-1, -1))), 4))

    def test_costs(self):
        verdict, claim, (choice, grounds, breaks) = decide(mend(2))
        self.assertEqual((verdict, choice), ("shown", (1,)))
        # The first option costs 5, both 7, nothing 0; the grounds of these are their own.
        for n, fault in ((2, None), (1, "cost"), (0, "cost")):
            self.assert_fault(("shown", mend(n), (choice, grounds, breaks[:n and 1])), fault)
        self.assert_fault(("shown", mend(3), (choice, grounds, (*breaks, (0, (((1, (5,)),),))))), "cost")
        dropped = decide(mend(None, KEEPS, LEADS))[2]
        self.assertEqual(dropped[:2], ("less", (0,)))
        self.assert_fault(("shown", mend(2), ((0,), dropped[2][:1], breaks)), "cost")
        formed = (((("ban", 0, (0,)),), (("ban", 0, (0,)),)),)
        self.assert_fault(("shown", mend(2), ((), formed, breaks)), "cost")

    def test_less(self):
        verdict, claim, (word, choice, grounds) = decide(mend(3))
        self.assertEqual((verdict, word, choice), ("broken", "less", (1,)))
        for n, fault in ((3, None), (300, None), (None, None), (2, "cost"), (1, "cost"), (0, "cost")):
            self.assert_fault(("broken", mend(n), (word, choice, grounds)), fault)
        # With n None it may cost anything, and need not be the cheapest one.
        drops = decide(mend(5, KEEPS, LEADS))[2]
        self.assertEqual(drops[0], (0,))
        self.assert_fault(("broken", mend(None), ("less", (0,), drops[1][:1])), None)
        self.assert_fault(("broken", mend(6), ("less", (0,), drops[1][:1])), None)
        self.assert_fault(("broken", mend(5), ("less", (0,), drops[1][:1])), "cost")

    def test_choices(self):
        for verdict, claim, paper in (
                ("shown", mend(2), lambda choice: (choice, *decide(mend(2))[2][1:])),
                ("broken", mend(3), lambda choice: ("less", choice, decide(mend(3))[2][2]))):
            self.assert_fault((verdict, claim, paper((1,))), None)
            for choice in ((2,), (-1,), (1, 0), (0, 0), (True,), [1], 1, None, "", (1, 2), (0, 1, 2), ((1,),), (1, None)):
                self.assert_unformed(verdict, claim, paper(choice))
        # Two options that drop the same deed, and too many deeds.
        options = (("drop", 0, 1), ("drop", 0, 1))
        self.assert_unformed("broken", mend(None, LEADS, options=options), ("less", (0, 1), (STORE,)))
        self.assert_fault(("broken", mend(None, LEADS, options=options), ("less", (1,), (STORE,))), None)
        options = (("put", 0, DROP, 1),)
        program = (DROP,) * 4
        self.assert_unformed("broken", mend(None, LEADS, program=program, options=options), ("less", (0,), (STORE,)))

    def test_forms(self):
        verdict, claim, paper = decide(mend(2))
        self.assert_unformed(verdict, claim, paper[:2], (*paper, ()), ("less", *paper[:2]), list(paper), (), paper[::-1],
                             ("more", paper[2]), None)
        verdict, claim, paper = decide(mend(3))
        self.assert_unformed(verdict, claim, paper[:2], (*paper, ()), paper[1:], ("more", paper[1], paper[2]), list(paper),
                             ("Less", *paper[1:]), (None, *paper[1:]), (["less"], *paper[1:]))
        verdict, claim, paper = decide(mend(1))
        self.assertEqual(paper[0], "more")
        self.assert_unformed(verdict, claim, paper[:1], (*paper, ()), paper[1:], ("less", paper[1]), list(paper), paper[1])
        verdict, claim, paper = decide(mend(None, LEADS, SPARES))
        self.assertEqual((verdict, len(paper)), ("shown", 4))
        self.assert_unformed(verdict, claim, paper[:3], (*paper, paper[0]), ("more", paper), (paper,), list(paper), ())

    def test_more_has_no_form_with_none(self):
        _, _, breaks = decide(mend(None, LEADS, SPARES))
        self.assert_fault(("broken", mend(300, LEADS, SPARES), ("more", breaks)), None)
        self.assert_fault(("broken", mend(7, LEADS, SPARES), ("more", breaks)), None)
        self.assert_fault(("broken", mend(6, LEADS, SPARES), ("more", breaks)), "paper")
        self.assert_fault(("broken", mend(6, LEADS, SPARES), ("more", breaks[:3])), None)
        self.assert_fault(("broken", mend(None, LEADS, SPARES), ("more", breaks)), "paper")
        self.assert_fault(("shown", mend(None, LEADS, SPARES), breaks), None)

    def test_breaks_as_many_as_told(self):
        _, _, breaks = decide(mend(None, LEADS, SPARES))
        # The choices cost 0, 2, 5, 7: those that cost at most n, and for "shown" those that cost less than n.
        for n, many in ((0, 1), (1, 1), (2, 2), (4, 2), (5, 3), (6, 3), (7, 4), (8, 4)):
            for length in range(5):
                fault = None if length == many else "paper"
                self.assert_fault(("broken", mend(n, LEADS, SPARES), ("more", breaks[:length])), fault)
        choice, grounds, breaks = decide(mend(5, KEEPS, LEADS))[2]
        for length in range(3):
            self.assert_fault(
                ("shown", mend(5, KEEPS, LEADS), (choice, grounds, breaks[:length])), None if length == 2 else "paper")

    def test_grounds(self):
        claim = mend(2, KEEPS, SPARES, ("same", (EMPTIED,)))
        certificate = decide(claim)
        grounds = certificate[2][1]
        self.assertEqual((certificate[0], len(grounds)), ("shown", 3))
        for told in (grounds[:2], (*grounds, grounds[0]), grounds[::-1], (), list(grounds), grounds[0]):
            self.assert_fault(exchanged(certificate, (2, 1), told), "paper")
        rows = (
            ((2, 1, 2, 0, 0, 0, 0), ("answer", 0, (7, 7)), ("ground", 2, ("kind", 0, 0, ("hit", 0, 0)))),
            ((2, 1, 1), STORE, ("ground", 1, ("store",))),
            ((2, 1, 0, 0, 0), ("ban", 0, (7,)), ("ground", 0, ("hit", 0, 0))),
        )
        both = certificate
        for path, wrong, fault in rows:
            self.assert_fault(exchanged(certificate, path, wrong), *fault)
            # The ground before it is told, where this one has its fault already.
            both = exchanged(both, path, wrong)
            self.assert_fault(both, *fault)
        self.assert_fault(exchanged(both, (2, 1, 2, 2, 1), ()), "paper")

    def test_the_first_ground_and_the_grounds_before_the_breaks(self):
        program, options = (DROP,), (("put", 0, DROP, 3), ("drop", 0, 1))
        wishes = (("same", (DROP,)), ("leads", (), (2, ())), ("spares", STORE, (2, ())))
        ended = (("same", (DROP,)), ("spares", (), (2, ())), ("leads", STORE, (1, (5,))))
        claim = mend(0, *ended, program=program, options=options, ban=no_ban())
        certificate = decide(claim)
        self.assertEqual(certificate[0], "shown")
        wrong = exchanged(certificate, (2, 1, 2), ())
        self.assert_fault(wrong, "ground", 2, ("store",))
        wrong = exchanged(wrong, (2, 1, 1), STORE)
        self.assert_fault(wrong, "ground", 1, ("store",))
        wrong = exchanged(wrong, (2, 1, 0, 1, 1, 0, 0), ("answer", 0, (7,)))
        self.assert_fault(wrong, "ground", 0, ("kind", 1, 1, ("hit", 0, 0)))
        wrong = exchanged(wrong, (2, 1, 0, 0, 0, 0, 0), ("answer", 0, (7, 7)))
        self.assert_fault(wrong, "ground", 0, ("kind", 0, 0, ("hit", 0, 0)))
        # Costs come first, but behind each wrong form.
        dear = exchanged(wrong, (1, 6), 1)
        breaks = tuple((1, run((), ())) for _ in range(1))
        self.assert_fault(exchanged(dear, (2, 2), breaks), "cost")
        self.assert_fault(exchanged(dear, (2, 2), ((1, 7),)), "paper")
        self.assert_fault(exchanged(exchanged(dear, (2, 2), breaks), (2, 1, 2), 7), "paper")
        # The fact of "leads" is not there: the store is right, but the wish is not kept.
        claim = mend(0, *wishes, program=program, options=options, ban=no_ban())
        self.assert_fault(("shown", claim, ((), (certificate[2][1][0], (), STORE), ())), "ground", 1, ("same",))

    def test_stores_of_leads_and_spares(self):
        fact, other = (1, (5,)), (2, ())
        rows = ((("leads", STORE, fact), True), (("leads", STORE, other), False), (("spares", STORE, fact), False),
                (("spares", STORE, other), True))
        options = (("drop", 0, 1),)
        for wish, kept in rows:
            ground = ((), (STORE,), ())
            self.assert_fault(
                ("shown", mend(0, wish, program=(SWAP,), options=options), ((), (((0, (4, 3)), fact),), ())),
                *([None] if kept else ["ground", 0, ("same",)]))
            self.assert_fault(
                ("shown", mend(0, wish, program=(SWAP,), options=options), ground), "ground", 0, ("store",))
            broken = ("broken", mend(0, wish, program=(SWAP,), options=options), ("more", ((0, ((0, (4, 3)), fact)),)))
            self.assert_fault(broken, *(["break", 0, ("same",)] if kept else [None]))
            self.assert_fault(exchanged(broken, (2, 1, 0, 1), STORE), "break", 0, ("store",))
            self.assert_fault(exchanged(broken, (2, 1, 0, 1), STORE[::-1]), "paper")
            self.assert_fault(exchanged(broken, (2, 1, 0, 1), (STORE,)), "paper")

    def test_stores_of_any_size(self):
        store = tuple((0, (a, b)) for a in range(2) for b in range(30))
        full = put((0, (-1, -2)), (0, (0, -1)), (0, (0, -2)))
        options = (("drop", 0, 1),)
        claim = mend(0, ("leads", store, (0, (29, 29))), program=(full,), options=options)
        after = run((full,), store)
        self.assertEqual(len(after), 900)
        # The ban is not asked of these stores: they have loops.
        self.assert_fault(("shown", claim, ((), (after,), ())), None)
        self.assert_fault(("shown", claim, ((), (after[:-1],), ())), "ground", 0, ("store",))
        self.assert_fault(("shown", claim, ((), (after + after[:1],), ())), "paper")
        claim = mend(0, ("spares", store, (0, (29, 29))), program=(full,), options=options)
        self.assert_fault(("broken", claim, ("more", ((0, after),))), None)

    def test_breaks(self):
        wishes = (KEEPS, ("same", (EMPTIED,)), ("leads", STORE, (2, ())))
        claim = mend(2, *wishes)
        bad = ((1, (5,)),)
        after = run((LOOPS,), STORE)
        last = run((EMPTIED, LOOPS), STORE)
        self.assertEqual(decide(claim)[0], "broken")
        for first in ((0, (bad,)), (1, (bad,)), (2, after)):
            right = ("broken", claim, ("more", (first, (2, last))))
            self.assert_fault(right, None)
            for index in (3, -1, True, False, None, "0", (0,)):
                self.assert_fault(exchanged(right, (2, 1, 0, 0), index), "paper")
            self.assert_fault(exchanged(right, (2, 1, 0), first[:1]), "paper")
            self.assert_fault(exchanged(right, (2, 1, 0), (*first, 0)), "paper")
            self.assert_fault(exchanged(right, (2, 1, 0), list(first)), "paper")
            # Another wish than the one that the paper is for.
            self.assert_fault(exchanged(right, (2, 1, 0, 0), (first[0] + 2) % 3), *{
                0: ["paper"], 1: [None], 2: ["paper"]}[first[0]])
        right = ("broken", claim, ("more", ((0, (bad,)), (2, last))))
        for store, fault in ((BANNED, "ban"), (((0, (5, 6)),), "same"), ((), "same"), (THIRTEEN, None), (TWELVE, 0)):
            words = {None: ["paper"], 0: [None]}.get(fault, ["break", 0, (fault,)])
            self.assert_fault(exchanged(right, (2, 1, 0, 1, 0), store), *words)
        # The first break is told, a wrong form before all.
        wrong = exchanged(right, (2, 1, 1, 1), after)
        self.assert_fault(wrong, "break", 1, ("store",))
        wrong = exchanged(wrong, (2, 1, 0, 1, 0), BANNED)
        self.assert_fault(wrong, "break", 0, ("ban",))
        self.assert_fault(exchanged(wrong, (2, 1, 1, 1), THIRTEEN[::-1]), "paper")
        # The wish of a break is kept by the changed program.
        self.assert_fault(exchanged(right, (2, 1, 1), (0, (bad,))), "break", 1, ("same",))
        self.assert_fault(exchanged(right, (2, 1, 1), (1, (bad,))), "break", 1, ("same",))

    def test_grounds_come_before_breaks(self):
        certificate = decide(mend(2, SPARES, KEEPS))
        self.assertEqual(certificate[0], "shown")
        wrong = exchanged(certificate, (2, 2, 0, 1), ())
        self.assert_fault(wrong, "break", 0, ("store",))
        self.assert_fault(exchanged(wrong, (2, 1, 0), ()), "ground", 0, ("store",))
        cheaper = exchanged(exchanged(wrong, (2, 1, 0), ()), (1, 6), 1)
        self.assert_fault(cheaper, "cost")
        self.assert_fault(exchanged(cheaper, (2, 1, 0), ((9, ()),)), "paper")


def mutated(draws, value, pool):
    """The value with a part exchanged, left out, turned round, put in, or made greater or less."""
    paths = [path for path in places(value) if path]
    path = draws.one_of([path for path in paths if path[0] == 2 or not draws.below(4)] or paths)
    part, way = at(value, path), draws.below(10)
    if isinstance(part, tuple) and part and way < 6:
        index = draws.below(len(part))
        return exchanged(value, path, (
            part[:index] + part[index + 1:], part[::-1], part[:index] + part[index:index + 1] + part[index:])[way // 2])
    if type(part) is int and way < 6:
        return exchanged(value, path, part + draws.one_of((1, 1, -1)))
    other = draws.one_of(pool) if way < 9 else draws.one_of((True, False, None, 29, 30, list(pool)))
    return exchanged(value, path, other)


class DrawnTest(CheckerCase):
    def test_mutated_certificates(self):
        draws = Draws(101)
        counts = {}
        for _ in range(250):
            claim = draws.claim() if draws.below(3) else draws.one_of(CLAIMS)[0]
            told = outcome(decide, claim, tries=60)
            if told[0] == "limit":
                continue
            certificate = told[1]
            self.assertIsNone(first_fault(certificate))
            pool = [at(certificate, path) for path in places(certificate)] + ["shown", "broken", "ban", "answer"]
            for _ in range(25):
                changed = certificate
                for _ in range(draws.one_of((1, 1, 1, 2, 3))):
                    changed = mutated(draws, changed, pool)
                with Unchanged(self, changed):
                    fault = first_fault(changed)
                self.assertEqual(shape(fault), shape(literal_fault(changed)), changed)
                word = None if fault is None else fault[0]
                counts[word] = counts.get(word, 0) + 1
                if fault is None:
                    self.assert_sound(changed)
        self.assertEqual(set(counts), {
            None, "paper", "claim", "same", "kind", "break", "side", "hit", "ground", "ban", "cost"}, counts)
        self.assertGreater(counts[None], 100)

    def assert_sound(self, certificate):
        verdict, claim, _ = certificate
        told = outcome(literal_decided, claim, 1000)
        if told[0] == "returned":
            self.assertEqual(verdict, "shown" if told[1] else "broken", certificate)

    def test_papers_of_other_claims(self):
        certificates = [decide(claim) for claim, _ in CLAIMS]
        for verdict, _, paper in certificates:
            for _, claim, _ in certificates:
                changed = (verdict, claim, paper)
                fault = first_fault(changed)
                self.assertEqual(shape(fault), shape(literal_fault(changed)), changed)
                if fault is None:
                    self.assert_sound(changed)


if __name__ == "__main__":
    unittest.main()
