"""Questions within other ones: points 2 and 12, and the interface of comparing.py."""

import unittest

from builders import KINDS, NO_LOOPS, ban_of, part_of, question_of_parts, unary
from cases import LimitCase
from literal import literal_alike, literal_parting, outcome
from models import Draws, model_answers, model_ways, stores_over
from variations import Unchanged, shape

from backasked.answers import keeps
from backasked.comparing import are_alike, is_within, parting
from backasked.questions import known_by, no_ban
from backasked.ways import facts_of

WIDE = (1, (part_of((0, (-1, -2)), head=(-1,)),))
LOOP = (1, (part_of((0, (-1, -1)), head=(-1,)),))
UNLIKE = ban_of((0, (-1, -2)), unlike=((-2, -1),))
# Parts without known things that have so many ways: the partitions of 1 to 7 variables.
PARTS_OF_7 = part_of((0, (-1, -2)), (0, (-3, -4)), (0, (-5, -6)), (1, (-7,)))
WAYS = {1: unary(-1), 2: unary(-1, -2), 5: unary(-1, -2, -3), 15: unary(-1, -2, -3, -4),
        52: unary(-1, -2, -3, -4, -5), 203: unary(-1, -2, -3, -4, -5, -6), 877: PARTS_OF_7}
HUGE = part_of((0, (-1, -2)), (0, (-3, -4)), (0, (-5, -6)), (0, (-7, -8)))
ALL_KNOWN = ban_of(*[(0, (thing, thing + 1)) for thing in (0, 2, 4, 6, 8)])
# 203 + 52 + 3 * 15 ways.
THREE_HUNDRED = question_of_parts(
    0, WAYS[203], WAYS[52], WAYS[15], unary(-2, -1, -3, -4), unary(-1, -3, -2, -4))
# 877 + 2 * 52 + 15 + 2 * 2 ways; no two parts have the same normal form.
THOUSAND = question_of_parts(
    0, WAYS[877], WAYS[52], part_of((0, (-1, -2)), (0, (-3, -4)), (1, (-5,))), WAYS[15], WAYS[2], part_of((0, (-1, -2))))


class ComparingCase(LimitCase):
    def assert_parting(self, first, second, ban, expected, **more):
        with Unchanged(self, first, second, ban):
            self.assertEqual(shape(parting(first, second, ban, **more)), shape(expected))
            self.assertIs(is_within(first, second, ban, **more), expected is None)
        self.assertEqual(literal_parting(first, second, ban, **more), expected)


class WithinTest(ComparingCase):
    def test_examples_of_the_interface(self):
        told = (is_within(LOOP, WIDE, no_ban()), parting(WIDE, LOOP, no_ban()), is_within(WIDE, LOOP, UNLIKE))
        self.assertEqual(shape(told), shape((True, (0, (0, 1)), True)))

    def test_questions_without_parts(self):
        for arity in (0, 1, 2):
            self.assert_parting((arity, ()), (arity, ()), no_ban(), None)
            self.assert_parting((arity, ()), (arity, ()), UNLIKE, None)
        self.assert_parting((1, ()), WIDE, no_ban(), None)
        self.assert_parting(WIDE, (1, ()), no_ban(), (0, (0, 0)))
        self.assert_parting(WIDE, (1, ()), UNLIKE, (0, (0, 0)))
        self.assert_parting(WIDE, (1, ()), ban_of((0, (-1, -2))), None)

    def test_parts_without_variables(self):
        told = (1, (part_of((0, (3, 4)), head=(3,)),))
        self.assert_parting(told, WIDE, no_ban(), None)
        self.assert_parting(told, LOOP, no_ban(), (0, ()))
        self.assert_parting(told, LOOP, UNLIKE, None)
        self.assert_parting(WIDE, told, no_ban(), (0, (0, 0)))
        self.assert_parting(ban_of((2, ())), ban_of((2, ()), (2, ())), no_ban(), None)
        self.assert_parting(ban_of((2, ())), ban_of((1, (-1,))), no_ban(), (0, ()))

    def test_parts_with_an_empty_body(self):
        always = (0, (part_of(),))
        self.assert_parting(always, always, no_ban(), None)
        self.assert_parting(always, no_ban(), no_ban(), (0, ()))
        self.assert_parting(always, no_ban(), always, None)
        self.assert_parting(always, ban_of((2, ())), no_ban(), (0, ()))
        self.assert_parting(ban_of((2, ())), always, no_ban(), None)
        self.assert_parting((2, (part_of(head=(3, 4)),)), (2, (part_of(head=(4, 3)),)), no_ban(), (0, ()))
        self.assert_parting((1, (part_of(head=(3,)),)), (1, (part_of(head=(3,), unlike=((3, 4),)),)), no_ban(), None)
        self.assert_parting(WIDE, (1, (part_of(head=(3,)),)), no_ban(), (0, (0, 0)))

    def test_pairs_of_the_second_question(self):
        first = (1, (part_of((0, (-1, -2)), head=(-1,)),))
        second = (1, (part_of((0, (-1, -2)), head=(-1,), unlike=((-2, -1),)),))
        self.assert_parting(first, second, no_ban(), (0, (0, 0)))
        self.assert_parting(second, first, no_ban(), None)
        self.assert_parting(first, second, NO_LOOPS, None)
        # An answer besides the way itself: another fact of the way has the head.
        both = (1, (part_of((0, (-1, -2)), (0, (-1, -1)), head=(-1,)),))
        self.assert_parting(both, second, no_ban(), (0, (0, 0)))
        far = (1, (part_of((0, (-1, -2)), (0, (-1, 3)), head=(-1,), unlike=((-1, 3),)),))
        self.assert_parting(far, second, no_ban(), None)

    def test_the_head_counts(self):
        forth, back = (2, (part_of((0, (-1, -2)), head=(-1, -2)),)), (2, (part_of((0, (-1, -2)), head=(-2, -1)),))
        self.assert_parting(forth, back, no_ban(), (0, (0, 1)))
        self.assert_parting(forth, back, UNLIKE, None)
        self.assert_parting(forth, (2, (part_of((0, (-1, -2)), head=(-1, -1)),)), no_ban(), (0, (0, 1)))
        self.assert_parting(forth, (2, (part_of((0, (-1, -2)), head=(-1, 3)),)), no_ban(), (0, (0, 0)))

    def test_things_known_by_the_second_question_alone(self):
        second = (1, (part_of((0, (-1, -2)), head=(-1,), unlike=((-2, 3),)),))
        self.assert_parting(WIDE, second, no_ban(), (0, (0, 3)))
        zero = (1, (part_of((0, (-1, -2)), head=(-1,), unlike=((-1, 0),)),))
        self.assert_parting(WIDE, zero, no_ban(), (0, (0, 0)))

    def test_things_known_by_the_ban_alone(self):
        ban = ban_of((0, (-1, -2)), unlike=((-2, 3),))
        self.assert_parting(WIDE, LOOP, ban, (0, (0, 3)))
        self.assert_parting(WIDE, LOOP, (0, (*ban[1], part_of((0, (-1, 3)), unlike=((-1, 3),)))), None)
        # Where 0 is known and banned, the least new thing is another one.
        self.assert_parting(WIDE, LOOP, ban_of((0, (0, -1))), (0, (1, 0)))
        self.assert_parting(WIDE, LOOP, (0, (part_of((0, (-1, 0))), part_of((0, (0, -1))))), (0, (1, 2)))

    def test_things_known_by_a_part_far_behind(self):
        first = (1, (part_of((0, (-1, -2)), head=(-1,)), part_of((0, (0, 1)), head=(0,))))
        second = (1, (part_of((0, (-1, -2)), head=(-1,), unlike=((-2, -1),)),))
        self.assert_parting(first, second, no_ban(), (0, (0, 0)))
        self.assertEqual(parting(first, (1, ()), ban_of((0, (0, -1))), tries=11), (0, (1, 0)))

    def test_the_first_part_and_way(self):
        parts = (part_of((0, (-1, -1)), head=(-1,)), part_of((0, (-1, -2)), head=(-1,)), part_of((1, (-1,)), head=(-1,)))
        first = (1, parts)
        self.assert_parting(first, LOOP, no_ban(), (1, (0, 1)))
        self.assert_parting(first, WIDE, no_ban(), (2, (0,)))
        self.assert_parting(first, LOOP, UNLIKE, (2, (0,)))
        self.assert_parting(first, (1, ()), no_ban(), (0, (0,)))
        self.assert_parting(first, (1, (parts[2],)), NO_LOOPS, (1, (0, 1)))

    def test_a_ban_that_no_way_keeps(self):
        for ban in ((0, (part_of(),)), ban_of((0, (-1, -2))), ban_of((0, (-1, -2)), (0, (-3, -2)))):
            self.assert_parting(WIDE, (1, ()), ban, None)
            self.assert_parting(WIDE, (1, (part_of((1, (-1,)), head=(-1,)),)), ban, None)
        # Of the two ways only the one with a loop breaks this ban.
        self.assert_parting(WIDE, (1, ()), ban_of((0, (-1, -2)), (0, (-2, -3))), (0, (0, 1)))

    def test_several_parts_of_the_second_question(self):
        # Each way is hit by another part.
        second = (1, (part_of((0, (-1, -1)), head=(-1,)), part_of((0, (-1, -2)), head=(-1,), unlike=((-2, -1),))))
        self.assert_parting(WIDE, second, no_ban(), None)
        self.assert_parting(second, WIDE, no_ban(), None)

    def test_arguments(self):
        self.assertIs(is_within(ban=no_ban(), second=WIDE, first=LOOP, tries=1), True)
        self.assertIs(is_within(LOOP, WIDE, no_ban(), tries=1), True)
        self.assertIs(parting(ban=no_ban(), second=WIDE, first=LOOP), None)
        for call in (is_within, parting, are_alike):
            with self.assertRaises(TypeError):
                call(LOOP, WIDE, no_ban(), 300)


class LimitTest(ComparingCase):
    def test_numbers_of_ways(self):
        for many, part in WAYS.items():
            question = (0, (part,))
            if many < 877:
                self.assertEqual(len(model_ways(part, ())), many)
            self.assertIs(is_within(question, question, no_ban(), tries=many), True)
            if many > 1:
                self.assert_limit(is_within, question, question, no_ban(), tries=many - 1)
                self.assert_limit(parting, question, question, no_ban(), tries=many - 1)
                self.assert_limit(parting, question, (0, ()), no_ban(), tries=many - 1)
                self.assert_limit(are_alike, question, question, no_ban(), tries=many - 1)

    def test_three_hundred(self):
        more = question_of_parts(0, *THREE_HUNDRED[1], part_of((2, ())))
        for tries in ({}, {"tries": 300}):
            self.assertIs(is_within(THREE_HUNDRED, THREE_HUNDRED, no_ban(), **tries), True)
            self.assertEqual(parting(THREE_HUNDRED, ban_of((2, ())), no_ban(), **tries), (0, (0,) * 4))
            self.assert_limit(is_within, more, THREE_HUNDRED, no_ban(), **tries)
            self.assert_limit(parting, more, THREE_HUNDRED, no_ban(), **tries)
        self.assertEqual(parting(more, THREE_HUNDRED, no_ban(), tries=301), (5, ()))
        self.assert_limit(is_within, THREE_HUNDRED, THREE_HUNDRED, no_ban(), tries=299)

    def test_a_thousand(self):
        more = question_of_parts(0, *THOUSAND[1], part_of((2, ())))
        self.assertIs(is_within(THOUSAND, more, no_ban(), tries=1000), True)
        self.assert_limit(is_within, more, more, no_ban(), tries=1000)
        self.assert_limit(is_within, THOUSAND, more, no_ban(), tries=999)
        self.assert_limit(is_within, THOUSAND, more, no_ban())

    def test_all_parts_together(self):
        first = question_of_parts(0, WAYS[5], unary(-2, -1, -3), part_of((0, (-1, -2))))
        self.assertIs(is_within(first, first, no_ban(), tries=12), True)
        self.assert_limit(is_within, first, first, no_ban(), tries=11)

    def test_parts_alone(self):
        parts = (2, tuple(part_of((0, (a, b)), head=(a, b)) for a in range(10) for b in range(10)))
        self.assertIs(is_within(parts, parts, no_ban(), tries=100), True)
        self.assert_limit(is_within, parts, parts, no_ban(), tries=99)
        first = (2, parts[1][:40])
        self.assertEqual(parting(first, (2, parts[1][:39]), no_ban(), tries=40), (39, ()))
        self.assert_limit(parting, first, (2, ()), no_ban(), tries=39)

    def test_known_things_make_more_ways(self):
        question = (0, (WAYS[2],))
        self.assertIs(is_within(question, question, no_ban(), tries=2), True)
        for ban, many in ((ban_of((0, (3, 3))), 5), (ban_of((0, (3, 4))), 10), (ALL_KNOWN, 122)):
            self.assertIs(is_within(question, question, ban, tries=many), True)
            self.assert_limit(is_within, question, question, ban, tries=many - 1)
            self.assertIs(is_within(question, (0, (*question[1], *ban[1])), no_ban(), tries=many), True)
            self.assert_limit(is_within, question, (0, (*question[1], *ban[1])), no_ban(), tries=many - 1)

    def test_pairs_make_fewer_ways(self):
        question = (0, (part_of((0, (-1, -2)), unlike=((-2, -1),)),))
        self.assertIs(is_within(question, question, no_ban(), tries=1), True)

    def test_ways_that_do_not_keep_the_ban_count(self):
        first = (0, (WAYS[5],))
        self.assert_limit(is_within, first, no_ban(), ban_of((1, (-1,))), tries=4)
        self.assertIs(is_within(first, no_ban(), ban_of((1, (-1,))), tries=5), True)

    def test_very_many_ways(self):
        question = question_of_parts(0, HUGE, WAYS[1])
        self.assert_limit(is_within, question, question, ALL_KNOWN)
        self.assert_limit(parting, question, no_ban(), ALL_KNOWN, tries=1000)
        # The ways of the second question are not counted.
        self.assertIs(is_within((0, (WAYS[1],)), question, no_ban(), tries=1), True)

    def test_a_limit_that_is_met_by_a_part_behind_the_first_parting_way(self):
        first = question_of_parts(0, part_of((0, (3, 4))), part_of((1, (-1,)), (1, (-2,))))
        self.assertEqual(first[1][0], part_of((0, (3, 4))))
        self.assert_limit(parting, first, no_ban(), no_ban(), tries=10)
        self.assertEqual(parting(first, no_ban(), no_ban(), tries=11), (0, ()))


class AlikeTest(ComparingCase):
    def test_alike(self):
        doubled = (1, (part_of((0, (-1, -2)), (0, (-1, -3)), head=(-1,)),))
        for one, other in ((WIDE, doubled), (doubled, WIDE), (WIDE, WIDE)):
            with Unchanged(self, one, other):
                self.assertIs(are_alike(one, other, no_ban()), True)
        for one, other in ((WIDE, LOOP), (LOOP, WIDE)):
            self.assertIs(are_alike(one, other, no_ban()), False)
            self.assertIs(are_alike(one, other, UNLIKE), True)
            self.assertIs(are_alike(one, other, ban_of((0, (-1, -2)))), True)
        self.assertIs(are_alike((1, ()), (1, ()), no_ban()), True)
        self.assertIs(are_alike((1, ()), LOOP, no_ban()), False)
        self.assertIs(are_alike((1, ()), LOOP, NO_LOOPS), True)

    def test_the_second_comparison_is_made_if_the_first_one_says_yes(self):
        small, large = (0, (WAYS[1],)), (0, (WAYS[203],))
        # Both say the same, and the limit is met by the greater one alone.
        self.assertIs(are_alike(small, large, no_ban(), tries=203), True)
        self.assert_limit(are_alike, small, large, no_ban(), tries=202)
        self.assert_limit(are_alike, large, small, no_ban(), tries=202)
        other = ban_of((2, ()))
        # The first one says no: the second one is not made.
        self.assertIs(are_alike(other, large, no_ban(), tries=1), False)
        self.assert_limit(are_alike, large, other, no_ban(), tries=202)
        self.assertIs(are_alike(large, other, no_ban(), tries=203), False)
        # The first one says yes: the second one is made and meets the limit, though it would say no.
        both = question_of_parts(0, WAYS[203], part_of((2, ())))
        self.assertIs(are_alike(other, both, no_ban(), tries=204), False)
        self.assert_limit(are_alike, other, both, no_ban(), tries=203)

    def test_arguments(self):
        self.assertIs(are_alike(ban=UNLIKE, other=WIDE, one=LOOP, tries=2), True)


class DrawnTest(ComparingCase):
    def draw(self, draws, terms, most):
        arity = draws.below(3)
        first, second = draws.question(KINDS, arity, terms, most), draws.question(KINDS, arity, terms, most)
        ban = draws.question(KINDS, 0, terms, 2, draws.one_of((1, 2))) if draws.below(3) else no_ban()
        return first, second, ban

    def test_the_first_parting(self):
        draws = Draws(51)
        counts = {True: 0, False: 0}
        for _ in range(400):
            first, second, ban = self.draw(draws, (-1, -2, -3, 0, 1), 2)
            expected = literal_parting(first, second, ban)
            self.assert_parting(first, second, ban, expected)
            counts[expected is None] += 1
        self.assertGreater(min(counts.values()), 60)

    def test_limits(self):
        draws = Draws(52)
        met = 0
        for _ in range(200):
            first, second, ban = self.draw(draws, (-1, -2, -3, 0, 1), 2)
            for tries in (1, 2, 5, 10, 20, 40):
                told = outcome(parting, first, second, ban, tries=tries)
                self.assertEqual(told, outcome(literal_parting, first, second, ban, tries=tries))
                alike = outcome(are_alike, first, second, ban, tries=tries)
                self.assertEqual(alike, outcome(literal_alike, first, second, ban, tries=tries))
                met += told[0] == "limit"
        self.assertGreater(met, 200)

    def test_answers_on_all_small_stores(self):
        kinds = (2, 1)
        draws = Draws(53)
        asked = []
        while len(asked) < 150:
            arity = draws.below(3)
            first, second = draws.question(kinds, arity, (-1, -2, 1), 2), draws.question(kinds, arity, (-1, -2, 1), 2)
            ban = draws.question(kinds, 0, (-1, -2, 1), 2, 1) if draws.below(3) else no_ban()
            found = parting(first, second, ban)
            if found is None:
                asked.append((first, second, ban))
            else:
                # The facts of the way are a store on which it is not so.
                index, values = found
                store = facts_of(first[1][index], values)
                self.assertTrue(keeps(ban, store))
                self.assertTrue(set(model_answers(first, store)) - set(model_answers(second, store)))
        for store in stores_over(kinds, (1, 5)):
            for first, second, ban in asked:
                if not model_answers(ban, store):
                    self.assertLessEqual(set(model_answers(first, store)), set(model_answers(second, store)))

    def test_answers_on_drawn_stores(self):
        draws = Draws(54)
        kept = 0
        for _ in range(400):
            first, second, ban = self.draw(draws, (-1, -2, -3, 0), 3)
            told = outcome(is_within, first, second, ban)
            if told == ("returned", True):
                for _ in range(10):
                    store = draws.store(KINDS, (0, 4, 5), 8)
                    if keeps(ban, store):
                        kept += 1
                        self.assertLessEqual(set(model_answers(first, store)), set(model_answers(second, store)))
        self.assertGreater(kept, 400)

    def test_a_question_is_within_itself_and_within_one_with_more_parts(self):
        draws = Draws(55)
        for _ in range(100):
            first, second, ban = self.draw(draws, (-1, -2, -3, 0), 2)
            both = (first[0], tuple(sorted({*first[1], *second[1]})))
            self.assertIs(is_within(first, first, ban, tries=1000), True)
            self.assertIs(is_within(first, both, ban, tries=1000), True)
            self.assertIs(
                are_alike(first, both, ban, tries=1000), is_within(second, first, ban, tries=1000),
                (first, second, known_by((first, second, ban))))


if __name__ == "__main__":
    unittest.main()
