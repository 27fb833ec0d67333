"""Programs compared on all stores that keep a ban: points 2 and 14, and the interface of judging.py."""

import unittest

from builders import DROP, KINDS, LOOPS, NO_LOOPS, SWAP, ban_of, part_of, put, question_of_parts, take, turn, unary
from cases import LimitCase
from literal import left_out, literal_kept, literal_same, literal_untouched, outcome
from models import Draws, model_answers, model_run, stores_over
from variations import Unchanged, shape

from backasked.answers import keeps
from backasked.judging import are_same, can_exchange, is_idle, is_kept, is_settled, is_untouched
from backasked.questions import no_ban, question_of

TERMS = (-1, -2, 0)
SIX = unary(-1, -2, -3, -4, -5, -6)


class JudgingCase(LimitCase):
    def assert_says(self, call, arguments, expected, **more):
        with Unchanged(self, *arguments):
            self.assertIs(call(*arguments, **more), expected, arguments)


class KeptTest(JudgingCase):
    def test_examples_of_the_interface(self):
        both = (DROP, LOOPS)
        told = (is_kept((LOOPS,), NO_LOOPS, NO_LOOPS), can_exchange((2, 1), both, 0, no_ban()),
                is_settled((2, 1), both, no_ban()))
        self.assertEqual(shape(told), shape((False, False, True)))

    def test_with_and_without_a_ban(self):
        none = ban_of((1, (-1,)))
        rows = (
            ((LOOPS,), NO_LOOPS, no_ban(), False),
            ((LOOPS,), NO_LOOPS, none, False),
            ((LOOPS,), NO_LOOPS, (0, (*NO_LOOPS[1], *none[1])), True),
            ((LOOPS,), no_ban(), no_ban(), True),
            ((LOOPS,), (0, (part_of(),)), no_ban(), False),
            ((LOOPS,), (0, (part_of(),)), (0, (part_of(),)), True),
            ((DROP,), ban_of((0, (-1, 3))), no_ban(), True),
            ((DROP,), ban_of((0, (3, -1))), no_ban(), False),
            ((SWAP,), NO_LOOPS, NO_LOOPS, True),
            ((take((0, (-1, -1))),), NO_LOOPS, no_ban(), True),
            ((LOOPS, take((0, (-1, -2)))), NO_LOOPS, no_ban(), True),
            ((take((1, (-1,))), LOOPS), NO_LOOPS, NO_LOOPS, True),
            ((LOOPS, take((1, (-1,)))), NO_LOOPS, NO_LOOPS, False),
            ((put((2, ())),), ban_of((2, ())), no_ban(), False),
            ((put((1, (4,)), unlike=((3, 4),)),), ban_of((1, (4,))), ban_of((1, (4,))), False),
        )
        for program, other, ban, expected in rows:
            self.assert_says(is_kept, (program, other, ban), expected)
            self.assertIs(literal_kept(program, other, ban), expected)

    def test_no_deeds(self):
        for ban in (no_ban(), NO_LOOPS, ban_of((0, (-1, -2)))):
            self.assert_says(is_kept, ((), ban, ban), True)
        self.assert_says(is_kept, ((), NO_LOOPS, no_ban()), False)
        self.assert_says(is_kept, ((), NO_LOOPS, ban_of((0, (-1, -2)))), True)
        self.assert_says(is_kept, ((), ban_of((0, (-1, -2))), NO_LOOPS), False)

    def test_limits(self):
        six = (0, (SIX,))
        # Leading back through a put of the kind: 2 choices for each of the 6 atoms.
        self.assert_limit(is_kept, (put((1, (3,))),), six, no_ban(), tries=63)
        # Led back there is one part for each number of variables that stay; then the comparison meets the limit.
        self.assert_limit(is_kept, (put((1, (3,))),), six, (0, (part_of(),)), tries=64)
        self.assert_says(is_kept, ((LOOPS,), six, (0, (part_of(),))), True, tries=203)
        self.assert_limit(is_kept, (LOOPS,), six, (0, (part_of(),)), tries=202)
        self.assert_limit(is_kept, (LOOPS,), six, ban_of((1, (3,))))
        self.assert_says(is_kept, ((LOOPS,), six, ban_of((1, (3,)))), False, tries=877)

    def test_arguments(self):
        self.assertIs(is_kept(ban=NO_LOOPS, other=NO_LOOPS, program=(LOOPS,), tries=300), False)
        with self.assertRaises(TypeError):
            is_kept((LOOPS,), NO_LOOPS, NO_LOOPS, 300)


class SameTest(JudgingCase):
    def test_with_and_without_a_ban(self):
        none = ban_of((1, (-1,)))
        rows = (
            ((), (), no_ban(), True),
            ((LOOPS,), (LOOPS, LOOPS), no_ban(), True),
            ((LOOPS,), (), no_ban(), False),
            ((LOOPS,), (), none, True),
            ((LOOPS, DROP), (DROP, LOOPS), no_ban(), False),
            ((LOOPS, DROP), (DROP, LOOPS), ban_of((1, (3,))), True),
            ((take((0, (-1, -1))),), (), NO_LOOPS, True),
            ((take((0, (-1, -1))),), (), no_ban(), False),
            ((SWAP, SWAP), (), no_ban(), False),
            ((SWAP, SWAP), (), (0, (part_of((0, (3, -1))),)), True),
            ((turn((0, (-1, -2)), (-2, -1)),) * 2, (), no_ban(), True),
            ((put((2, ())),), (), no_ban(), False),
            ((put((2, ())),), (), ban_of((2, ())), False),
            ((put((2, ())), take((2, ()))), (take((2, ())),), no_ban(), True),
            ((put((2, ())), take((2, ()))), (), ban_of((2, ())), True),
            ((take((1, (3,))), take((1, (4,)))), (take((1, (4,))), take((1, (3,)))), no_ban(), True),
            ((LOOPS, take((0, (-1, -2))), put((2, ())), SWAP), (put((2, ())), take((0, (-1, -2)))), no_ban(), True),
            ((LOOPS,), (DROP,), (0, (part_of(),)), True),
        )
        for one, other, ban, expected in rows:
            self.assert_says(are_same, (KINDS, one, other, ban), expected)
            self.assert_says(are_same, (KINDS, other, one, ban), expected)
            self.assertIs(literal_same(KINDS, one, other, ban), expected)

    def test_kinds_without_things(self):
        kinds = (0,)
        come, go = (put((0, ())),), (take((0, ())),)
        self.assert_says(are_same, (kinds, come, go, no_ban()), False)
        self.assert_says(are_same, (kinds, come, come + come, no_ban()), True)
        self.assert_says(are_same, (kinds, go, (), ban_of((0, ()))), True)
        self.assert_says(are_same, (kinds, go, (), no_ban()), False)

    def test_each_kind_counts(self):
        for kind, many in enumerate((2, 1, 0)):
            deed = take((kind, (-1, -2)[:many]))
            self.assert_says(are_same, (KINDS, (deed,), (), no_ban()), False)
            self.assert_says(are_same, ((many,), (take((0, (-1, -2)[:many])),), (), no_ban()), False)

    def test_limits(self):
        # The question of kind 1 has 1 part with 1 way and 1 more by each known thing; 2 choices at a put.
        told = ((put((1, (3,))), put((1, (4,)))), (put((1, (4,))), put((1, (3,)))))
        # Back: 2 choices, then 3; the parts are one with 3 ways and two with 1 way.
        self.assert_says(are_same, ((1, 1), *told, no_ban()), True, tries=5)
        self.assert_limit(are_same, (1, 1), *told, no_ban(), tries=4)
        self.assert_limit(are_same, (2, 1), *told, no_ban(), tries=1)

    def test_a_kind_that_says_no_ahead_of_one_over_the_limit(self):
        gone, many = take((0, (-1,))), put((1, (3,)))
        self.assert_says(are_same, ((1, 1), (gone, many), (), no_ban()), False, tries=1)
        # The other way round the kind that is over the limit comes first.
        gone, many = take((1, (-1,))), put((0, (3,)))
        self.assert_limit(are_same, (1, 1), (gone, many), (), no_ban(), tries=1)
        self.assert_says(are_same, ((1, 1), (gone, many), (), no_ban()), False, tries=3)

    def test_leading_back_through_the_other_program_too(self):
        # The first kind says no, but both leadings back are done before.
        self.assert_limit(are_same, (1,), (take((0, (-1,))),), (put((0, (3,))),), no_ban(), tries=1)
        self.assert_limit(are_same, (1,), (put((0, (3,))),), (take((0, (-1,))),), no_ban(), tries=1)

    def test_a_comparison_that_is_not_made(self):
        # After the one program nothing is there; the other one says no at the second comparison.
        gone = (take((0, (-1,))),)
        self.assert_says(are_same, ((1,), gone, (), no_ban()), False, tries=1)
        self.assert_limit(are_same, (1,), gone, (), ban_of((0, (3,))), tries=1)
        self.assert_limit(are_same, (1,), (), gone, ban_of((0, (3,))), tries=1)

    def test_arguments(self):
        told = {"kinds": KINDS, "one": (LOOPS,), "other": (LOOPS, LOOPS), "ban": no_ban(), "tries": 300}
        self.assertIs(are_same(**told), True)
        with self.assertRaises(TypeError):
            are_same(KINDS, (LOOPS,), (LOOPS,), no_ban(), 300)


class UntouchedTest(JudgingCase):
    def test_with_and_without_a_ban(self):
        edges, things = question_of(KINDS, 0), question_of(KINDS, 1)
        rows = (
            ((LOOPS,), things, no_ban(), True),
            ((LOOPS,), edges, no_ban(), False),
            ((LOOPS,), edges, ban_of((1, (-1,))), True),
            ((LOOPS,), (1, ()), no_ban(), True),
            ((LOOPS,), (1, (part_of(head=(3,)),)), no_ban(), True),
            ((), edges, no_ban(), True),
            ((SWAP,), ban_of((0, (-1, -2))), no_ban(), True),
            ((SWAP,), edges, no_ban(), False),
            ((SWAP,), edges, ban_of((0, (-1, -2)), unlike=((-2, -1),)), True),
            ((put((1, (3,))), take((1, (3,)))), things, no_ban(), False),
            ((put((1, (3,))), take((1, (3,)))), (1, (part_of((1, (-1,)), head=(-1,), unlike=((-1, 3),)),)), no_ban(), True),
            ((put((2, ())),), ban_of((2, ())), no_ban(), False),
            ((put((2, ())),), ban_of((1, (-1,))), no_ban(), True),
        )
        for program, question, ban, expected in rows:
            self.assert_says(is_untouched, (program, question, ban), expected)
            self.assertIs(literal_untouched(program, question, ban), expected)

    def test_the_question_in_normal_form(self):
        # In normal form the atom stands once and no pair tells of 8 and 9: 1 way, not more.
        question = (0, (part_of((1, (-4,)), (1, (-4,)), unlike=((8, 9),)),))
        self.assert_says(is_untouched, ((), question, no_ban()), True, tries=1)
        self.assert_says(is_untouched, ((LOOPS,), question, no_ban()), True, tries=1)
        question = (0, (part_of((1, (-4,)), (2, ()), unlike=((-4, 9),)),))
        self.assert_limit(is_untouched, (LOOPS,), question, ban_of((1, (3,))), tries=1)

    def test_limits(self):
        six = (0, (SIX,))
        self.assert_limit(is_untouched, (put((1, (3,))),), six, no_ban(), tries=63)
        self.assert_says(is_untouched, ((LOOPS,), six, no_ban()), True, tries=203)
        self.assert_limit(is_untouched, (LOOPS,), six, no_ban(), tries=202)
        # After the program there is no answer: the first comparison says yes, the second one meets the limit.
        gone = (take((1, (-1,))),)
        self.assert_limit(is_untouched, gone, six, no_ban(), tries=202)
        self.assert_says(is_untouched, (gone, six, no_ban()), False, tries=203)
        # The first comparison says no at once.
        always = (put((2, ())),)
        question = question_of_parts(0, SIX, part_of((2, ())))
        self.assert_limit(is_untouched, always, question, no_ban(), tries=203)
        self.assert_says(is_untouched, (always, question, no_ban()), False, tries=205)

    def test_arguments(self):
        self.assertIs(is_untouched(ban=no_ban(), question=NO_LOOPS, program=(LOOPS,), tries=2), False)
        with self.assertRaises(TypeError):
            is_untouched((LOOPS,), NO_LOOPS, no_ban(), 300)


class DeedsTest(JudgingCase):
    def test_idle(self):
        program = (LOOPS, DROP, LOOPS, take((1, (3,))))
        self.assert_says(is_idle, (KINDS, program, 0, no_ban()), True)
        self.assert_says(is_idle, (KINDS, program, 1, no_ban()), False)
        self.assert_says(is_idle, (KINDS, program, 2, no_ban()), False)
        self.assert_says(is_idle, (KINDS, program, 3, no_ban()), False)
        banned = (0, (part_of((0, (-1, 3))), part_of((1, (3,)))))
        for index in range(4):
            self.assert_says(is_idle, (KINDS, program, index, banned), True)
        self.assert_says(is_idle, (KINDS, (take((2, ())),), 0, ban_of((2, ()))), True)
        self.assert_says(is_idle, (KINDS, (put((2, ())),), 0, ban_of((2, ()))), False)

    def test_exchange(self):
        program = (LOOPS, DROP, put((2, ())), take((2, ())))
        self.assert_says(can_exchange, (KINDS, program, 0, no_ban()), False)
        self.assert_says(can_exchange, (KINDS, program, 0, ban_of((1, (3,)))), True)
        self.assert_says(can_exchange, (KINDS, program, 1, no_ban()), True)
        self.assert_says(can_exchange, (KINDS, program, 2, no_ban()), False)
        self.assert_says(can_exchange, (KINDS, program, 2, ban_of((2, ()))), False)
        self.assert_says(can_exchange, (KINDS, (SWAP, SWAP), 0, no_ban()), True)

    def test_settled(self):
        rows = (
            ((), no_ban(), True),
            ((LOOPS,), no_ban(), True),
            ((LOOPS, DROP), no_ban(), True),
            ((SWAP,), no_ban(), False),
            ((SWAP,), ban_of((0, (-1, -2)), unlike=((-2, -1),)), True),
            ((SWAP, SWAP), no_ban(), True),
            ((turn((1, (3,)), (4,)), turn((1, (4,)), (5,))), no_ban(), True),
            ((turn((1, (4,)), (5,)), turn((1, (3,)), (4,))), no_ban(), False),
            ((turn((1, (4,)), (5,)), turn((1, (3,)), (4,))), ban_of((1, (3,))), True),
            # Four deeds, done as one program of eight.
            ((turn((1, (6,)), (7,)), turn((1, (5,)), (6,)), turn((1, (4,)), (5,)), turn((1, (3,)), (4,))), no_ban(), False),
            ((turn((1, (3,)), (4,)), turn((1, (4,)), (5,)), turn((1, (5,)), (6,)), turn((1, (6,)), (7,))), no_ban(), True),
            ((put((0, (-1, -3)), (0, (-1, -2)), (0, (-2, -3))),), no_ban(), False),
        )
        for program, ban, expected in rows:
            self.assert_says(is_settled, (KINDS, program, ban), expected)
            self.assertIs(literal_same(KINDS, program, program + program, ban), expected)

    def test_limits(self):
        program = (put((1, (3,))), put((1, (4,))))
        # Through the program there are 2 and 3 choices, through two of them 2, 3, 3, 3.
        self.assert_limit(is_settled, (1, 1), program, no_ban(), tries=4)
        self.assert_says(is_settled, ((1, 1), program, no_ban()), True, tries=5)
        self.assert_limit(can_exchange, (1, 1), program, 0, no_ban(), tries=4)
        self.assert_says(can_exchange, ((1, 1), program, 0, no_ban()), True, tries=5)
        # 2 ways of one part and 1 of the other; without the deed there is 1 part of 3 ways, and no known thing more.
        self.assert_limit(is_idle, (1, 1), program, 0, no_ban(), tries=2)

    def test_arguments(self):
        self.assertIs(is_idle(ban=no_ban(), index=0, program=(LOOPS, LOOPS), kinds=KINDS, tries=300), True)
        self.assertIs(can_exchange(ban=no_ban(), index=0, program=(LOOPS, LOOPS), kinds=KINDS, tries=300), True)
        self.assertIs(is_settled(ban=no_ban(), program=(LOOPS, LOOPS), kinds=KINDS, tries=300), True)
        for call, arguments in ((is_idle, (KINDS, (LOOPS,), 0)), (can_exchange, (KINDS, (LOOPS, LOOPS), 0)),
                                (is_settled, (KINDS, (LOOPS,)))):
            with self.assertRaises(TypeError):
                call(*arguments, no_ban(), 300)


class LiteralTest(JudgingCase):
    def test_drawn_limits(self):
        draws = Draws(71)
        counts = {"limit": 0, True: 0, False: 0}
        kinds = (2, 1)
        for _ in range(200):
            one, other = draws.program(kinds, TERMS, 3), draws.program(kinds, TERMS, 3)
            if draws.below(2):
                other = left_out(one, draws.below(len(one)))
            ban, question = draws.question(kinds, 0, TERMS, 2), draws.question(kinds, draws.below(3), TERMS, 2)
            asked = draws.question(kinds, 0, TERMS, 2)
            for tries in (2, 4, 8, 16, 64):
                rows = (
                    (is_kept, literal_kept, (one, asked, ban), None),
                    (are_same, literal_same, (kinds, one, other, ban), None),
                    (is_untouched, literal_untouched, (one, question, ban), None),
                    (is_settled, literal_same, (kinds, one, ban), (kinds, one, one * 2, ban)),
                    (is_idle, literal_same, (kinds, one, 0, ban), (kinds, one, one[1:], ban)),
                )
                if len(one) > 1:
                    turned = (*one[:-2], one[-1], one[-2])
                    rows = (*rows, (can_exchange, literal_same, (kinds, one, len(one) - 2, ban), (kinds, one, turned, ban)))
                for call, literal, arguments, others in rows:
                    told = outcome(call, *arguments, tries=tries)
                    expected = outcome(literal, *(others or arguments), tries=tries)
                    self.assertEqual(shape(told), shape(expected), (call, arguments, tries))
                    counts["limit" if told[0] == "limit" else told[1]] += 1
        self.assertGreater(min(counts.values()), 300)


class RunsTest(JudgingCase):
    """What is said is so on many small stores that keep the ban, and what is not said is not."""

    def draw(self, draws, kinds, terms):
        one = draws.program(kinds, terms, 3)
        other = draws.one_of((draws.program(kinds, terms, 2), one[1:], one[:-1], one + one[-1:]))
        ban = draws.question(kinds, 0, terms, 2, 1) if draws.below(2) else no_ban()
        return one, other, ban, draws.question(kinds, draws.below(3), terms, 2), draws.question(kinds, 0, terms, 2)

    def check(self, found, store):
        (one, other, ban, question, asked), kept, same, untouched, settled = found
        if not keeps(ban, store):
            return
        after = model_run(one, store)
        if kept == ("returned", True):
            self.assertEqual(model_answers(asked, after), (), (one, asked, ban, store))
        if same == ("returned", True):
            self.assertEqual(after, model_run(other, store), (one, other, ban, store))
        if untouched == ("returned", True):
            self.assertEqual(model_answers(question, store), model_answers(question, after), (one, question, ban, store))
        if settled == ("returned", True):
            self.assertEqual(after, model_run(one, after), (one, ban, store))

    def judged(self, kinds, drawn):
        one, other, ban, question, asked = drawn
        return (drawn, outcome(is_kept, one, asked, ban), outcome(are_same, kinds, one, other, ban),
                outcome(is_untouched, one, question, ban), outcome(is_settled, kinds, one, ban))

    def test_on_all_small_stores(self):
        draws = Draws(72)
        kinds = (2, 1)
        asked = [self.judged(kinds, self.draw(draws, kinds, (-1, -2, 1))) for _ in range(60)]
        for place in range(1, 5):
            self.assertGreater(sum(found[place] == ("returned", True) for found in asked), 8, place)
        for store in stores_over(kinds, (1, 5)):
            for found in asked:
                self.check(found, store)

    def test_on_drawn_stores(self):
        draws = Draws(73)
        for _ in range(200):
            found = self.judged(KINDS, self.draw(draws, KINDS, TERMS))
            for _ in range(10):
                self.check(found, draws.store(KINDS, (0, 1, 4, 5), 8))

    def test_what_is_not_said_is_not_so_on_some_small_store(self):
        # Kinds of at most one thing: the stores over the known thing and three new ones are enough for these draws.
        draws = Draws(74)
        kinds = (1, 0)
        stores = list(stores_over(kinds, (0, 1, 2, 3)))
        counts = {True: 0, False: 0}
        for _ in range(150):
            one, other, ban, question, asked = self.draw(draws, kinds, (-1, -2, 0))
            kept = [store for store in stores if not model_answers(ban, store)]
            afters = [model_run(one, store) for store in kept]
            rows = (
                (is_kept(one, asked, ban), all(not model_answers(asked, after) for after in afters)),
                (are_same(kinds, one, other, ban), afters == [model_run(other, store) for store in kept]),
                (is_untouched(one, question, ban), all(
                    model_answers(question, store) == model_answers(question, after)
                    for store, after in zip(kept, afters))),
                (is_settled(kinds, one, ban), afters == [model_run(one, after) for after in afters]),
            )
            for told, expected in rows:
                self.assertIs(told, expected, (one, other, ban, question, asked))
                counts[told] += 1
        self.assertGreater(min(counts.values()), 100)


if __name__ == "__main__":
    unittest.main()
