"""Claims and their certificates: points 2, 3 and 16, and the interface of claims.py."""

import unittest

from builders import DROP, KINDS, LOOPS, NO_LOOPS, ban_of, part_of, put, question_of_parts, take, unary
from literal import literal_decided, outcome
from models import Draws
from samples import CLAIMS, EMPTIED, KEEPS, LEADS, LOOP, OPTIONS, SPARES, UNLIKE, WIDE, mend
from test_comparing import THOUSAND, THREE_HUNDRED
from variations import OTHER_VALUES, Unchanged, deep, exchanged, of_other_kinds, places, same_but_wrong, shape

from backasked.checker import first_fault
from backasked.claims import decide, require_claim
from backasked.comparing import is_within
from backasked.errors import InvalidClaim, LimitExceeded
from backasked.judging import are_same, is_kept, is_settled, is_untouched
from backasked.mends import cheapest_mend
from backasked.questions import no_ban, question_of

NAMES = {
    "within": ("kinds", "ban", "first", "second"),
    "kept": ("kinds", "ban", "program", "other"),
    "same": ("kinds", "ban", "one", "other"),
    "settled": ("kinds", "ban", "program"),
    "untouched": ("kinds", "ban", "program", "question"),
    "mend": ("kinds", "ban", "program", "wishes", "options", "n"),
}
# One claim of each word, none of its parts being right for kinds without things.
EACH = {
    "within": ("within", KINDS, UNLIKE, WIDE, LOOP),
    "kept": ("kept", KINDS, NO_LOOPS, (EMPTIED, LOOPS), NO_LOOPS),
    "same": ("same", KINDS, ban_of((1, (3,))), (LOOPS, DROP), (DROP, LOOPS)),
    "settled": ("settled", KINDS, NO_LOOPS, (LOOPS, DROP)),
    "untouched": ("untouched", KINDS, ban_of((1, (-1,))), (LOOPS,), question_of(KINDS, 0)),
    "mend": mend(2, KEEPS, SPARES, ("same", (EMPTIED,))),
}


class ClaimCase(unittest.TestCase):
    def assert_decided(self, claim, expected, **more):
        with Unchanged(self, claim):
            certificate = decide(claim, **more)
        verdict, told, _ = certificate
        self.assertIs(type(certificate), tuple)
        self.assertEqual(shape(told), shape(claim))
        self.assertEqual(verdict, "shown" if expected else "broken", claim)
        with Unchanged(self, certificate):
            self.assertIsNone(first_fault(certificate))
        self.assert_plain(certificate)
        return certificate

    def assert_plain(self, value):
        """Nothing but plain tuples, integers, texts and None stands at any depth."""
        if type(value) is tuple:
            for part in value:
                self.assert_plain(part)
        else:
            self.assertIn(type(value), (int, str, type(None)))

    def assert_claim(self, claim):
        with Unchanged(self, claim):
            self.assertIs(require_claim(claim), claim)

    def assert_no_claim(self, part, value):
        for call in (require_claim, decide):
            with Unchanged(self, value), self.assertRaises(InvalidClaim) as caught:
                call(value)
            self.assertEqual(shape(caught.exception.part), shape(part), value)


def with_part(claim, name, value):
    """A claim with another value under one of its names."""
    place = 1 + NAMES[claim[0]].index(name)
    return (*claim[:place], value, *claim[place + 1:])


class RequireTest(ClaimCase):
    def test_right_claims(self):
        self.assertEqual(set(EACH), set(NAMES))
        for claim, _ in CLAIMS:
            self.assert_claim(claim)

    def test_no_tuple(self):
        for value in (*OTHER_VALUES, 0, 7, "kept", list(EACH["kept"]), {"kept": EACH["kept"]}):
            self.assert_no_claim(None, value)

    def test_words(self):
        self.assert_no_claim(None, ())
        for claim in EACH.values():
            for word in (*OTHER_VALUES, "Kept", "keep", "keeps", "less", "kept ", 0, 1, ("kept",), ["kept"], deep(39)):
                self.assert_no_claim(None, (word, *claim[1:]))
            self.assert_no_claim(None, claim[1:])

    def test_how_many_parts(self):
        for claim in EACH.values():
            for many in range(len(claim)):
                self.assert_no_claim(None, claim[:many])
            self.assert_no_claim(None, (*claim, claim[-1]))
            self.assert_no_claim(None, (*claim, None))
            self.assert_no_claim(None, claim + claim)
            self.assert_no_claim(None, (claim[0], *[None] * len(claim)))

    def test_each_part_wrong(self):
        for word, names in NAMES.items():
            for name in names:
                # None tells of n that nothing mends.
                for value in (*OTHER_VALUES, -1, ("ab",), deep(39), (LOOPS, ())):
                    if (name, value) != ("n", None):
                        self.assert_no_claim(name, with_part(EACH[word], name, value))

    def test_the_first_wrong_part_is_told(self):
        for word, names in NAMES.items():
            for index, name in enumerate(names):
                for later in names[index:]:
                    claim = with_part(with_part(EACH[word], later, "ab"), name, "ab")
                    self.assert_no_claim(name, claim)
            self.assert_no_claim("kinds", (word, *["ab"] * len(names)))

    def test_kinds(self):
        told = ("within", (2, 1, 0), no_ban(), (0, ()), (0, ()))
        for kinds in ((0,), (1,), (2,), (0, 1, 2, 2), (2, 2, 2, 2)):
            self.assert_claim(with_part(told, "kinds", kinds))
        for kinds in ((), (3,), (-1,), (0, 0, 0, 0, 0), (True,), (1, False), [1], (None,), 1, ("1",), ((1,),)):
            self.assert_no_claim("kinds", with_part(told, "kinds", kinds))

    def test_parts_for_other_kinds(self):
        for word, names in NAMES.items():
            claim = with_part(EACH[word], "kinds", (0, 0, 0))
            rights = {"ban": no_ban(), "first": (1, ()), "program": (), "one": (), "wishes": (("same", ()),)}
            for name in names[1:-1 if word == "mend" else None]:
                self.assert_no_claim(name, claim)
                if name in rights:
                    claim = with_part(claim, name, rights[name])
                else:
                    break

    def test_bans(self):
        for word, names in NAMES.items():
            self.assert_claim(with_part(EACH[word], "ban", no_ban()))
            for ban in ((1, ()), LOOP, (0, [part_of()]), (0, (part_of(), part_of())), ban_of((3, ())), (False, ())):
                self.assert_no_claim("ban", with_part(EACH[word], "ban", ban))
        for other in ((1, ()), WIDE, (), (LOOPS,), ban_of((3, ()))):
            self.assert_no_claim("other", with_part(EACH["kept"], "other", other))

    def test_programs(self):
        rows = (("kept", "program"), ("same", "one"), ("same", "other"), ("settled", "program"), ("untouched", "program"))
        for word, name in rows:
            self.assert_claim(with_part(EACH[word], name, ()))
            self.assert_claim(with_part(EACH[word], name, (LOOPS,) * 4))
            for program in ((LOOPS,) * 5, LOOPS, [LOOPS], no_ban(), (take((3, ())),), ((),)):
                self.assert_no_claim(name, with_part(EACH[word], name, program))
        self.assert_no_claim("program", with_part(EACH["mend"], "program", (LOOPS,) * 5))

    def test_questions(self):
        for word, name in (("within", "first"), ("untouched", "question")):
            for question in ((3, ()), (-1, ()), (True, ()), (1, (part_of(),)), (1, WIDE[1] * 2), (LOOPS,), ()):
                self.assert_no_claim(name, with_part(EACH[word], name, question))
        for arity in range(3):
            self.assert_claim(with_part(EACH["untouched"], "question", (arity, ())))

    def test_arities_that_differ(self):
        for one in range(3):
            for other in range(3):
                claim = ("within", KINDS, no_ban(), (one, ()), (other, ()))
                if one == other:
                    self.assert_claim(claim)
                else:
                    self.assert_no_claim("second", claim)
        self.assert_no_claim("second", ("within", KINDS, no_ban(), WIDE, question_of(KINDS, 0)))
        self.assert_no_claim("second", ("within", KINDS, no_ban(), WIDE, (True, LOOP[1])))

    def test_wishes_and_options(self):
        claim = mend(2)
        for wishes in ((), (KEEPS,) * 4, KEEPS, [KEEPS], (("keeps", (1, ())),), (KEEPS, None)):
            self.assert_no_claim("wishes", with_part(claim, "wishes", wishes))
        for options in ((), OPTIONS * 2, OPTIONS[0], list(OPTIONS), (("drop", 1, 0),), (("put", 2, DROP, 0),)):
            self.assert_no_claim("options", with_part(claim, "options", options))
        # Options are right ones for the program of the claim.
        self.assert_claim(with_part(with_part(claim, "options", (("drop", 1, 0),)), "program", (LOOPS, DROP)))
        self.assert_no_claim("options", with_part(claim, "program", ()))

    def test_n(self):
        for n in (0, 1, 2, 299, 300, None):
            self.assert_claim(mend(n))
        for n in (-1, 301, 1000, True, False, "0", (), (0,), [0], {}):
            self.assert_no_claim("n", mend(n))

    def test_parts_otherwise_at_each_depth(self):
        for claim in EACH.values():
            for path, changed in [*same_but_wrong(claim), *of_other_kinds(claim)]:
                # None in the place of n is the one exchange that leaves a claim.
                if shape(changed) == shape((*claim[:6], None)):
                    self.assert_claim(changed)
                else:
                    self.assert_no_claim(*told_wrong(claim, path), changed)

    def test_arguments_by_name(self):
        self.assertEqual(require_claim(claim=mend(2)), mend(2))
        with self.assertRaises(TypeError):
            decide(mend(2), 300)


def told_wrong(claim, path):
    """The name that stands where a path begins, in a tuple."""
    return (NAMES[claim[0]][path[0] - 1] if path and path[0] else None,)


class DecideTest(ClaimCase):
    def test_example_of_the_interface(self):
        verdict, claim, paper = decide(("kept", (2, 1), NO_LOOPS, (LOOPS,), NO_LOOPS))
        told = (verdict, first_fault((verdict, claim, paper)), first_fault(("shown", claim, ())))
        self.assertEqual(shape(told), shape(("broken", None, ("paper",))))

    def test_each_word_with_both_verdicts(self):
        words = set()
        for claim, expected in CLAIMS:
            self.assertIs(literal_decided(claim), expected, claim)
            self.assert_decided(claim, expected)
            words.add((claim[0], expected))
        self.assertEqual(len(words), 12)

    def test_papers(self):
        self.assertEqual(decide(CLAIMS[0][0])[2], (((("answer", 0, (0, 0)),)),))
        self.assertEqual(decide(("within", KINDS, no_ban(), WIDE, LOOP))[2], (((0, (0, 1)),), (0,)))
        self.assertEqual(decide(("within", KINDS, UNLIKE, WIDE, LOOP))[2][0][1], ("ban", 0, (0, 1)))
        self.assertEqual(decide(("kept", KINDS, NO_LOOPS, (LOOPS,), NO_LOOPS))[2], (((1, (0,)),),))
        self.assertEqual(decide(("settled", KINDS, NO_LOOPS, ()))[2][2], (((("answer", 0, ()),),),) * 2)

    def test_each_paper_of_a_mend(self):
        self.assertEqual(self.assert_decided(mend(2), True)[2][0], (1,))
        self.assertEqual(len(self.assert_decided(mend(2), True)[2][2]), 1)
        self.assertEqual(len(self.assert_decided(mend(5, KEEPS, LEADS), True)[2][2]), 2)
        self.assertEqual(len(self.assert_decided(mend(None, LEADS, SPARES), True)[2]), 4)
        self.assertEqual(self.assert_decided(mend(3), False)[2][:2], ("less", (1,)))
        self.assertEqual(self.assert_decided(mend(None), False)[2][:2], ("less", (1,)))
        word, breaks = self.assert_decided(mend(1), False)[2]
        self.assertEqual((word, len(breaks)), ("more", 1))
        word, breaks = self.assert_decided(mend(4, KEEPS, LEADS), False)[2]
        self.assertEqual((word, len(breaks)), ("more", 2))
        for n, many in ((0, 1), (1, 1), (2, 2), (5, 3), (6, 3), (7, 4), (300, 4)):
            word, breaks = self.assert_decided(mend(n, LEADS, SPARES), False)[2]
            self.assertEqual((word, len(breaks)), ("more", many))

    def test_choices_of_equal_cost(self):
        # The choice () does not mend, nor does (0,); (1,) costs as much as (0,).
        options = (("put", 1, DROP, 0), ("put", 0, EMPTIED, 0))
        self.assertEqual(self.assert_decided(mend(0, options=options), True)[2][0], (0, 1))
        self.assertEqual(self.assert_decided(mend(0, options=options), True)[2][2], ())
        self.assertEqual(self.assert_decided(mend(None, options=options), False)[2][:2], ("less", (0, 1)))

    def test_large_stores_of_leads_and_spares(self):
        full = put((0, (-1, -2)), (1, (-1,)), (1, (-2,)))
        store = tuple((1, (thing,)) for thing in range(30))
        for word, expected in (("leads", True), ("spares", False)):
            claim = mend(0, (word, store, (0, (29, 29))), program=(full,), options=(("drop", 0, 1),))
            certificate = self.assert_decided(claim, expected)
            self.assertEqual(len(certificate[2][1][0] if expected else certificate[2][1][0][1]), 930)

    def test_limits(self):
        self.assert_decided(("within", KINDS, no_ban(), THREE_HUNDRED, THREE_HUNDRED), True)
        self.assert_decided(("within", KINDS, no_ban(), THOUSAND, THOUSAND), True, tries=1000)
        more = question_of_parts(0, *THREE_HUNDRED[1], part_of((2, ())))
        for claim, tries in (
                (("within", KINDS, no_ban(), more, more), {}), (("within", KINDS, no_ban(), more, more), {"tries": 300}),
                (("within", KINDS, no_ban(), THOUSAND, THOUSAND), {"tries": 999}),
                (("kept", KINDS, no_ban(), (), THOUSAND), {}), (("untouched", KINDS, no_ban(), (), THOUSAND), {}),
                (("kept", KINDS, no_ban(), (put((1, (3,))),), (0, (unary(-1, -2, -3),))), {"tries": 7}),
                (("same", KINDS, no_ban(), (), (put((1, (3,))),)), {"tries": 1}),
                (("settled", KINDS, no_ban(), (put((1, (3,))),)), {"tries": 1}),
                (mend(0, ("keeps", THOUSAND)), {})):
            with Unchanged(self, claim), self.assertRaises(LimitExceeded) as caught:
                decide(claim, **tries)
            self.assertEqual(caught.exception.limit, tries.get("tries", 300))

    def test_invalid_claims_come_first(self):
        self.assert_no_claim("second", ("within", KINDS, no_ban(), THOUSAND, None))
        self.assert_no_claim("n", mend(301, ("keeps", THOUSAND)))
        with self.assertRaises(InvalidClaim):
            decide(("kept", KINDS, no_ban(), None, None), tries=1)

    def test_arguments_by_name(self):
        self.assertEqual(decide(claim=mend(2), tries=300), decide(mend(2)))


def raised_by_its_call(claim, tries):
    """What the call that a claim's limit is that of returns, or the limit that it meets."""
    word, kinds, ban, first = claim[:4]
    if word == "within":
        return outcome(is_within, first, claim[4], ban, tries=tries)
    if word == "kept":
        return outcome(is_kept, first, claim[4], ban, tries=tries)
    if word == "same":
        return outcome(are_same, kinds, first, claim[4], ban, tries=tries)
    if word == "settled":
        return outcome(is_settled, kinds, first, ban, tries=tries)
    if word == "untouched":
        return outcome(is_untouched, first, claim[4], ban, tries=tries)
    return outcome(cheapest_mend, kinds, first, *claim[4:6], ban, tries=tries)


class DrawnTest(ClaimCase):
    def test_drawn_claims(self):
        draws = Draws(91)
        counts = {}
        for _ in range(600):
            claim = draws.claim()
            self.assert_claim(claim)
            for tries in (3, 12, 300):
                expected = outcome(literal_decided, claim, tries)
                limit = raised_by_its_call(claim, tries)
                self.assertEqual(limit[0] == "limit", expected[0] == "limit")
                if expected[0] == "limit":
                    with self.assertRaises(LimitExceeded) as caught:
                        decide(claim, tries=tries)
                    self.assertEqual(caught.exception.limit, tries)
                    told = "limit"
                else:
                    told = self.assert_decided(claim, expected[1], tries=tries)[0]
                counts[claim[0], told] = counts.get((claim[0], told), 0) + 1
        self.assertEqual(len(counts), 18, counts)
        self.assertGreater(min(counts.values()), 10, counts)


class PlacesTest(unittest.TestCase):
    def test_each_part_of_a_claim_is_looked_at(self):
        # An integer that is too great stands nowhere in a right claim.
        for claim in EACH.values():
            for path in places(claim):
                changed = exchanged(claim, path, 10 ** 6)
                with self.assertRaises(InvalidClaim) as caught:
                    require_claim(changed)
                self.assertEqual((caught.exception.part,), told_wrong(claim, path), changed)


if __name__ == "__main__":
    unittest.main()
