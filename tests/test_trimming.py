"""Needless parts and conditions, trimmed questions and guards: points 2, 3 and 13, and the interface of trimming.py."""

import unittest

from builders import DROP, KINDS, LOOPS, NO_LOOPS, ban_of, part_of, put, question_of_parts, take, turn, unary
from cases import LimitCase
from literal import conditions, literal_needless, literal_trimmed, outcome
from models import Draws, model_answers, model_run, stores_over
from variations import Unchanged, shape

from backasked.answers import answers, keeps
from backasked.comparing import are_alike
from backasked.leading import led_back
from backasked.questions import no_ban, question_of, require_question
from backasked.trimming import guard, is_needless, trimmed

DOUBLED = (1, (part_of((0, (-1, -2)), (0, (-1, -3)), head=(-1,)),))
WIDE = (1, (part_of((0, (-1, -2)), head=(-1,)),))


class TrimmingCase(LimitCase):
    def assert_needless(self, question, index, place, ban, expected, **more):
        with Unchanged(self, question, ban):
            self.assertIs(is_needless(question, index, place, ban, **more), expected)
        self.assertIs(literal_needless(question, index, place, ban, **more), expected)

    def assert_trimmed(self, question, ban, expected, **more):
        with Unchanged(self, question, ban):
            self.assertEqual(shape(trimmed(question, ban, **more)), shape(expected))
        self.assertEqual(literal_trimmed(question, ban, **more), expected)


class NeedlessTest(TrimmingCase):
    def test_parts(self):
        loop, edge = part_of((0, (-1, -1)), head=(-1,)), part_of((0, (-1, -2)), head=(-1,))
        question = (1, (loop, edge))
        self.assert_needless(question, 0, None, no_ban(), True)
        self.assert_needless(question, 1, None, no_ban(), False)
        self.assert_needless(question, 1, None, ban_of((0, (-1, -2)), unlike=((-2, -1),)), True)
        self.assert_needless((1, (loop,)), 0, None, no_ban(), False)
        self.assert_needless((1, (loop,)), 0, None, NO_LOOPS, True)
        self.assert_needless((1, (edge,)), 0, None, NO_LOOPS, False)
        self.assert_needless((0, (part_of(),)), 0, None, no_ban(), False)
        self.assert_needless((0, (part_of(),)), 0, None, (0, (part_of(),)), True)

    def test_a_part_that_two_others_make_needless(self):
        question = question_of_parts(
            0, part_of((1, (-1,))), part_of((1, (-1,)), unlike=((-1, 3),)), part_of((1, (3,))))
        for index in range(3):
            self.assert_needless(question, index, None, no_ban(), True)
        self.assert_needless((0, question[1][1:]), 1, None, no_ban(), False)

    def test_atoms(self):
        self.assert_needless(DOUBLED, 0, 0, no_ban(), True)
        self.assert_needless(DOUBLED, 0, 1, no_ban(), True)
        self.assert_needless(WIDE, 0, 0, no_ban(), False)
        path = (0, (part_of((0, (-1, -2)), (0, (-2, -3)), (0, (-4, -2))),))
        self.assert_needless(path, 0, 0, no_ban(), True)
        self.assert_needless(path, 0, 1, no_ban(), False)
        self.assert_needless(path, 0, 2, no_ban(), True)
        looped = (0, (part_of((0, (-1, -1)), (0, (-1, -2))),))
        self.assert_needless(looped, 0, 0, no_ban(), False)
        self.assert_needless(looped, 0, 1, no_ban(), True)
        self.assert_needless((0, (part_of((2, ())),)), 0, 0, no_ban(), False)
        self.assert_needless((0, (part_of((2, ())),)), 0, 0, (0, (part_of(),)), True)
        self.assert_needless(ban_of((0, (3, 4)), (1, (5,))), 0, 1, no_ban(), False)

    def test_an_atom_that_stands_twice(self):
        twice = (1, (part_of((0, (-1, -2)), (0, (-1, -2)), head=(-1,)),))
        self.assert_needless(twice, 0, 0, no_ban(), True)
        self.assert_needless(twice, 0, 1, no_ban(), True)
        self.assert_needless((0, (part_of((2, ()), (2, ()), (1, (3,))),)), 0, 2, no_ban(), False)

    def test_pairs(self):
        question = (0, (part_of((0, (-1, -2)), (1, (-1,)), unlike=((-2, -1), (-1, 3))),))
        self.assert_needless(question, 0, 2, no_ban(), False)
        self.assert_needless(question, 0, 3, no_ban(), False)
        self.assert_needless(question, 0, 2, NO_LOOPS, True)
        self.assert_needless(question, 0, 3, NO_LOOPS, False)
        self.assert_needless(question, 0, 3, ban_of((1, (3,))), True)
        self.assert_needless(question, 0, 2, ban_of((1, (3,))), False)
        things = (0, (part_of(unlike=((3, 4), (4, 5))),))
        self.assert_needless(things, 0, 0, no_ban(), True)
        self.assert_needless(things, 0, 1, no_ban(), True)

    def test_conditions_are_counted_on_from_the_atoms_to_the_pairs(self):
        question = (0, (part_of((0, (-1, -2)), (0, (-1, -2)), unlike=((-2, -1), (-1, 3), (3, 4))),))
        told = [is_needless(question, 0, place, no_ban()) for place in range(5)]
        self.assertEqual(shape(told), shape([True, True, False, False, True]))

    def test_another_part_has_the_rest(self):
        # The pair is needless because the other part answers where it does not hold.
        question = question_of_parts(0, part_of((1, (-1,)), unlike=((-1, 3),)), part_of((1, (3,))))
        self.assertEqual(question[1][0], part_of((1, (-1,)), unlike=((-1, 3),)))
        self.assert_needless(question, 0, 1, no_ban(), True)
        self.assert_needless(question, 0, 0, no_ban(), False)
        self.assert_needless(question, 1, 0, no_ban(), False)

    def test_a_condition_without_which_the_part_is_no_part(self):
        told = (1, (part_of((0, (-1, -2)), (1, (-2,)), head=(-1,), unlike=((-2, 3),)),))
        for ban in (no_ban(), ban_of((0, (-1, -2))), (0, (part_of(),))):
            self.assert_needless(told, 0, 0, ban, False)
        self.assert_needless((0, (part_of((1, (-1,)), unlike=((-1, 3),)),)), 0, 0, no_ban(), False)
        # The pair is bound by the other atom.
        bound = (1, (part_of((0, (-1, -2)), (1, (-2,)), unlike=((-2, 3),), head=(-2,)),))
        self.assert_needless(bound, 0, 0, no_ban(), False)
        self.assert_needless(bound, 0, 1, no_ban(), False)
        # No store that keeps this ban has a way of the part without the atom.
        self.assert_needless(bound, 0, 0, ban_of((1, (-1,))), True)

    def test_the_part_without_it_is_there_already(self):
        question = question_of_parts(1, part_of((0, (-1, -2)), head=(-1,)), part_of((0, (-1, -2)), (1, (-1,)), head=(-1,)))
        self.assertEqual(len(question[1][1][1]), 2)
        self.assert_needless(question, 1, 1, no_ban(), True)
        # With the part that the other one would become, the other one's own condition is the last binding one.
        self.assert_needless(question, 1, 0, no_ban(), False)
        self.assert_needless(question, 0, 0, no_ban(), False)

    def test_limits_of_a_part_alone(self):
        # 5 ways, and 2 of the other part, which do not count.
        question = question_of_parts(0, unary(-1, -2, -3), part_of((0, (-1, -2))))
        index = question[1].index(unary(-1, -2, -3))
        self.assert_needless(question, index, None, no_ban(), False, tries=5)
        self.assert_limit(is_needless, question, index, None, no_ban(), tries=4)
        self.assert_needless(question, 1 - index, None, no_ban(), False, tries=2)
        self.assert_limit(is_needless, question, 1 - index, None, no_ban(), tries=1)

    def test_limits_of_a_part_without_a_condition(self):
        question = (0, (part_of((1, (-1,)), (1, (-2,)), (1, (-3,)), unlike=((-2, -1),)),))
        # Without an atom of -3 there is 1 way, without the pair there are 5, alone it has 3.
        self.assert_needless(question, 0, 2, no_ban(), True, tries=1)
        self.assert_needless(question, 0, 3, no_ban(), False, tries=5)
        self.assert_limit(is_needless, question, 0, 3, no_ban(), tries=4)
        self.assert_needless(question, 0, None, no_ban(), False, tries=3)
        self.assert_limit(is_needless, question, 0, None, no_ban(), tries=2)

    def test_known_things_of_the_question_and_the_ban(self):
        question = question_of_parts(0, part_of((1, (-1,))), part_of((0, (3, 4))))
        index = question[1].index(part_of((1, (-1,))))
        self.assert_needless(question, index, None, no_ban(), False, tries=3)
        self.assert_limit(is_needless, question, index, None, no_ban(), tries=2)
        self.assert_needless(question, index, None, ban_of((0, (5, 6))), False, tries=5)
        self.assert_limit(is_needless, question, index, None, ban_of((0, (5, 6))), tries=4)
        # Also of the condition that is left out.
        told = (0, (part_of((1, (-1,)), (1, (3,))),))
        self.assert_needless(told, 0, 1, no_ban(), False, tries=2)
        self.assert_limit(is_needless, told, 0, 1, no_ban(), tries=1)

    def test_nothing_is_compared_where_there_is_no_part(self):
        six = [(1, (-1 - place,)) for place in range(6)]
        question = (1, (part_of(*six, head=(-1,)),))
        self.assert_needless(question, 0, 0, no_ban(), False, tries=1)
        # Without another atom it is a part of 52 ways.
        self.assert_needless(question, 0, 1, no_ban(), True, tries=52)
        self.assert_limit(is_needless, question, 0, 1, no_ban(), tries=51)
        self.assert_limit(is_needless, question, 0, None, no_ban(), tries=202)

    def test_the_part_is_there_already_and_over_the_limit(self):
        question = question_of_parts(0, unary(-1, -2, -3), part_of((1, (-1,)), (1, (-2,)), (1, (-3,)), (2, ())))
        index = question[1].index(part_of((1, (-1,)), (1, (-2,)), (1, (-3,)), (2, ())))
        self.assert_needless(question, index, 3, no_ban(), True, tries=5)
        self.assert_limit(is_needless, question, index, 3, no_ban(), tries=4)

    def test_three_hundred_tries(self):
        six = (0, (unary(-1, -2, -3, -4, -5, -6),))
        self.assert_needless(six, 0, None, no_ban(), False)
        # With a known thing there are 877 ways, without a condition 203.
        self.assert_limit(is_needless, six, 0, None, ban_of((0, (3, 3))))
        self.assertIs(is_needless(six, 0, 0, ban_of((0, (3, 3)))), True)

    def test_arguments(self):
        self.assertIs(is_needless(ban=no_ban(), place=0, index=0, question=DOUBLED, tries=2), True)
        with self.assertRaises(TypeError):
            is_needless(DOUBLED, 0, 0, no_ban(), 300)


class TrimmedTest(TrimmingCase):
    def test_examples_of_the_interface(self):
        told = (trimmed(DOUBLED, no_ban())[1], guard((LOOPS,), NO_LOOPS, NO_LOOPS)[1])
        self.assertEqual(
            shape(told), shape(((((-1,), ((0, (-1, -3)),), ()),), (((), ((1, (-1,)),), ()),))))

    def test_nothing_is_needless(self):
        rows = (
            WIDE, (1, ()), no_ban(), (0, (part_of(),)), question_of(KINDS, 0), question_of(KINDS, 2),
            (1, (part_of((0, (-1, -2)), (0, (-2, -3)), head=(-1,)),)),
            (2, (part_of((0, (-1, -2)), (1, (-2,)), head=(-2, 5), unlike=((-2, -1), (-1, 3))),)),
            (2, (part_of(head=(3, 4)), part_of(head=(4, 3)))),
        )
        for question in rows:
            self.assert_trimmed(question, no_ban(), question)

    def test_the_first_condition_by_place(self):
        # Of equal atoms the last one stays.
        self.assert_trimmed(
            (1, (part_of((0, (-1, -2)), (0, (-1, -3)), (0, (-1, -4)), head=(-1,)),)), no_ban(),
            (1, (part_of((0, (-1, -4)), head=(-1,)),)))
        self.assert_trimmed(
            (0, (part_of((2, ()), (1, (3,)), (2, ())),)), no_ban(), (0, (part_of((1, (3,)), (2, ())),)))
        # An atom that binds a pair stays for as long as the pair does: here the first pair goes ahead of its atom.
        self.assert_trimmed(
            (0, (part_of((1, (-1,)), (1, (-2,)), unlike=((-2, 3),)),)), no_ban(),
            (0, (part_of((1, (-2,)), unlike=((-2, 3),)),)))
        self.assert_trimmed(
            (0, (part_of((1, (-1,)), (1, (-2,)), unlike=((-2, 3), (-1, 3))),)), no_ban(),
            (0, (part_of((1, (-1,)), unlike=((-1, 3),)),)))

    def test_no_normal_form(self):
        self.assert_trimmed(
            (1, (part_of((0, (-5, -8)), (0, (-5, -5)), head=(-5,)),)), no_ban(),
            (1, (part_of((0, (-5, -5)), head=(-5,)),)))
        self.assert_trimmed(
            (0, (part_of((0, (-3, -1)), (2, ()), (2, ())),)), no_ban(), (0, (part_of((0, (-3, -1)), (2, ())),)))

    def test_pairs(self):
        self.assert_trimmed((0, (part_of(unlike=((3, 4), (5, 6))),)), no_ban(), (0, (part_of(),)))
        question = (0, (part_of((0, (-1, -2)), unlike=((-2, -1), (-1, 3))),))
        self.assert_trimmed(question, no_ban(), question)
        self.assert_trimmed(question, NO_LOOPS, (0, (part_of((0, (-1, -2)), unlike=((-1, 3),)),)))
        self.assert_trimmed(question, ban_of((0, (-1, -2)), unlike=((-2, -1),)), (0, ()))
        self.assert_trimmed(
            question, (0, (part_of((0, (-1, -1))), part_of((0, (3, -1))))), (0, (part_of((0, (-1, -2))),)))

    def test_parts(self):
        loop, edge, back = (part_of(atom, head=(-1,)) for atom in ((0, (-1, -1)), (0, (-1, -2)), (0, (-2, -1))))
        self.assert_trimmed(question_of_parts(1, loop, edge), no_ban(), (1, (edge,)))
        self.assert_trimmed(question_of_parts(1, loop, back), no_ban(), (1, (back,)))
        self.assert_trimmed(question_of_parts(1, loop, edge, back), no_ban(), question_of_parts(1, edge, back))
        self.assert_trimmed((1, (loop,)), NO_LOOPS, (1, ()))
        self.assert_trimmed(question_of_parts(1, loop, edge), ban_of((0, (-1, -2))), (1, ()))

    def test_the_first_of_several_equal_parts_is_left_out(self):
        # Any of the three is needless beside another one: the last one stays.
        rows = sorted(part_of((0, (-1, other)), head=(-1,)) for other in (-2, -3, -4))
        self.assert_trimmed((1, tuple(rows)), no_ban(), (1, (rows[2],)))

    def test_conditions_come_before_parts(self):
        # The first part is needless, but first the pair of the second one is left out; then both are the same.
        one, other = part_of((1, (-1,)), unlike=((-1, 3),)), part_of((1, (3,)))
        self.assert_trimmed(question_of_parts(0, one, other), no_ban(), (0, (part_of((1, (-1,))),)))
        both = part_of((1, (-1,)), (2, ()))
        self.assert_trimmed(question_of_parts(0, both, part_of((2, ()))), no_ban(), (0, (part_of((2, ())),)))

    def test_parts_that_become_the_same(self):
        self.assert_trimmed(
            question_of_parts(1, part_of((0, (-1, -2)), head=(-1,)), part_of((0, (-1, -2)), (0, (-1, -3)), head=(-1,)),
                              part_of((0, (-1, -3)), (0, (-1, -2)), head=(-1,))), no_ban(), WIDE)
        question = question_of_parts(0, part_of((2, ()), (2, ())), part_of((2, ()), unlike=((3, 4),)), part_of((2, ())))
        self.assert_trimmed(question, no_ban(), (0, (part_of((2, ())),)))

    def test_the_parts_are_a_set_again(self):
        # Without its first atom the first part is greater than the second one.
        first = part_of((0, (-2, -3)), (1, (-1,)), (2, ()), (0, (-2, -4)))
        second = part_of((0, (3, 4)))
        question = question_of_parts(0, first, second)
        self.assertEqual(question[1], (first, second))
        self.assert_trimmed(question, no_ban(), question_of_parts(
            0, second, part_of((1, (-1,)), (2, ()), (0, (-2, -4)))))

    def test_trimmed_a_second_time_it_stays(self):
        draws = Draws(61)
        for _ in range(150):
            question = draws.question(KINDS, draws.below(3), (-1, -2, -3, 0), 3, 3)
            ban = draws.question(KINDS, 0, (-1, -2, 0), 2) if draws.below(2) else no_ban()
            once = outcome(trimmed, question, ban)
            if once[0] == "returned":
                self.assert_trimmed_again(once[1], ban)

    def assert_trimmed_again(self, question, ban):
        self.assertEqual(shape(trimmed(question, ban)), shape(question))
        require_question(KINDS, question)
        for index, place in [*conditions(question), *[(index, None) for index in range(len(question[1]))]]:
            self.assertIs(is_needless(question, index, place, ban), False, (question, index, place))

    def test_arguments(self):
        self.assertEqual(trimmed(ban=no_ban(), question=DOUBLED, tries=2), trimmed(DOUBLED, no_ban()))
        with self.assertRaises(TypeError):
            trimmed(DOUBLED, no_ban(), 300)


class TrimmedLimitsTest(TrimmingCase):
    def test_a_limit_behind_the_first_needless_one_is_not_met(self):
        # The first atom is left out first, with 1 way without it; then the pair is looked at, with 2 ways without it.
        question = (0, (part_of((1, (-1,)), (1, (-2,)), (0, (-2, -3)), unlike=((-3, -2),)),))
        self.assert_limit(is_needless, question, 0, 3, no_ban(), tries=4)
        self.assert_trimmed(question, no_ban(), (0, (part_of((1, (-2,)), (0, (-2, -3)), unlike=((-3, -2),)),)), tries=2)
        self.assert_limit(trimmed, question, no_ban(), tries=1)

    def test_a_limit_ahead_of_the_first_needless_one_is_met(self):
        # Without the first atom there are 2 ways and it is not needless; the last one has 1 way without it, and is.
        question = (0, (part_of((0, (-1, -1)), (0, (-1, -2)), (2, ())),))
        self.assert_trimmed(question, no_ban(), (0, (part_of((0, (-1, -1)), (2, ())),)), tries=2)
        self.assert_limit(trimmed, question, no_ban(), tries=1)
        self.assertIs(is_needless(question, 0, 1, no_ban(), tries=1), True)

    def test_each_limit(self):
        rows = (
            (0, (part_of((1, (-1,)), (1, (-2,)), (1, (-3,)), (0, (-2, -3)), unlike=((-3, -2),)),)),
            question_of_parts(0, part_of((1, (3,)), (1, (3,))), unary(-1, -2, -3)),
            question_of_parts(0, part_of((0, (-1, -2)), (0, (-2, -3)), unlike=((-3, -1),)), part_of((0, (-1, -2)))),
            question_of_parts(1, part_of((0, (-1, -2)), head=(-1,)), part_of((0, (-1, 3)), (1, (-2,)), head=(-1,))),
        )
        for question in rows:
            for ban in (no_ban(), NO_LOOPS, ban_of((0, (4, 5)))):
                for tries in range(1, 60):
                    self.assertEqual(
                        outcome(trimmed, question, ban, tries=tries),
                        outcome(literal_trimmed, question, ban, tries=tries))

    def test_parts_are_looked_at_up_to_the_first_needless_one(self):
        loops = part_of((0, (-1, -1)), head=(-1, -1))
        wide = part_of((0, (-1, -2)), head=(-1, -2))
        question = (2, (wide, loops))
        # Conditions: none is a part without it. Parts: the first one has 2 ways, the second one 1.
        self.assert_trimmed(question, no_ban(), (2, (wide,)), tries=2)
        self.assert_limit(trimmed, question, no_ban(), tries=1)

    def test_three_hundred_tries(self):
        six = (0, (unary(-1, -2, -3, -4, -5, -6),))
        # The conditions have 203 ways with a known thing, and fewer at each turn; the last part has 2.
        self.assertEqual(trimmed(six, ban_of((0, (3, 3)))), (0, (part_of((1, (-6,))),)))
        self.assert_limit(trimmed, six, ban_of((0, (3, 3))), tries=202)
        self.assertEqual(trimmed(six, ban_of((0, (3, 3))), tries=203), (0, (part_of((1, (-6,))),)))
        self.assert_limit(trimmed, six, ban_of((0, (3, 4))))

    def test_drawn_limits(self):
        draws = Draws(62)
        counts = {"limit": 0, "returned": 0}
        for _ in range(150):
            question = draws.question(KINDS, draws.below(3), (-1, -2, -3, 0), 3, 3)
            ban = draws.question(KINDS, 0, (-1, -2, 1), 2) if draws.below(2) else no_ban()
            for tries in (1, 2, 3, 5, 8, 13, 21):
                told = outcome(trimmed, question, ban, tries=tries)
                self.assertEqual(shape(told), shape(outcome(literal_trimmed, question, ban, tries=tries)))
                counts[told[0]] += 1
                for index, place in [*conditions(question), *[(index, None) for index in range(len(question[1]))]]:
                    self.assertEqual(
                        outcome(is_needless, question, index, place, ban, tries=tries),
                        outcome(literal_needless, question, index, place, ban, tries=tries))
        self.assertGreater(min(counts.values()), 100)


class AnswersTest(TrimmingCase):
    def test_on_all_small_stores(self):
        kinds = (2, 1)
        draws = Draws(63)
        asked = []
        changed = 0
        for _ in range(150):
            question = draws.question(kinds, draws.below(3), (-1, -2, 1), 3, 3)
            ban = draws.question(kinds, 0, (-1, -2, 1), 2, 2) if draws.below(4) else no_ban()
            short = trimmed(question, ban)
            self.assertIs(are_alike(question, short, ban), True)
            changed += short != question
            asked.append((question, ban, short))
        self.assertGreater(changed, 100)
        for store in stores_over(kinds, (1, 5)):
            for question, ban, short in asked:
                if keeps(ban, store):
                    self.assertEqual(answers(short, store), answers(question, store), (question, ban, store))

    def test_on_drawn_stores(self):
        draws = Draws(64)
        kept = 0
        for _ in range(150):
            question = draws.question(KINDS, draws.below(3), (-1, -2, -3, 0), 4, 3)
            ban = draws.question(KINDS, 0, (-1, -2, 0), 2, 2) if draws.below(4) else no_ban()
            told = outcome(trimmed, question, ban)
            for _ in range(10 if told[0] == "returned" else 0):
                store = draws.store(KINDS, (0, 4, 5), 8)
                if keeps(ban, store):
                    kept += 1
                    self.assertEqual(model_answers(told[1], store), model_answers(question, store))
        self.assertGreater(kept, 300)


class GuardTest(TrimmingCase):
    def test_guards(self):
        rows = (
            ((), NO_LOOPS, no_ban(), NO_LOOPS),
            ((), NO_LOOPS, NO_LOOPS, no_ban()),
            ((LOOPS,), NO_LOOPS, no_ban(), question_of_parts(0, part_of((0, (-1, -1))), part_of((1, (-1,))))),
            ((LOOPS,), NO_LOOPS, NO_LOOPS, ban_of((1, (-1,)))),
            ((LOOPS,), NO_LOOPS, ban_of((1, (-1,))), NO_LOOPS),
            ((DROP,), ban_of((0, (-1, 3))), no_ban(), no_ban()),
            ((put((2, ())),), ban_of((2, ())), no_ban(), (0, (part_of(),))),
            ((take((1, (3,))),), ban_of((1, (-5,))), no_ban(), ban_of((1, (-1,)), unlike=((-1, 3),))),
            ((turn((1, (3,)), (4,)),), ban_of((1, (4,))), ban_of((1, (4,))), ban_of((1, (3,)))),
        )
        for program, other, ban, expected in rows:
            with Unchanged(self, program, other, ban):
                self.assertEqual(shape(guard(program, other, ban)), shape(expected))
            self.assertEqual(literal_trimmed(led_back(program, other), ban), expected)

    def test_a_store_keeps_the_guard_or_breaks_the_other_ban_after_the_program(self):
        draws = Draws(65)
        counts = {True: 0, False: 0}
        for _ in range(200):
            program, other = draws.program(KINDS, (-1, -2, 0), 3), draws.question(KINDS, 0, (-1, -2, 0), 2)
            ban = draws.question(KINDS, 0, (-1, -2, 0), 2) if draws.below(2) else no_ban()
            told = outcome(guard, program, other, ban)
            for _ in range(8 if told[0] == "returned" else 0):
                store = draws.store(KINDS, (0, 4, 5), 8)
                if keeps(ban, store):
                    expected = not model_answers(other, model_run(program, store))
                    self.assertIs(keeps(told[1], store), expected, (program, other, ban, store))
                    counts[expected] += 1
        self.assertGreater(min(counts.values()), 150)

    def test_limits(self):
        # Leading back: 2 choices. Then: without the pair there are 5 ways.
        self.assert_limit(guard, (LOOPS,), NO_LOOPS, no_ban(), tries=1)
        self.assertEqual(guard((LOOPS,), NO_LOOPS, no_ban(), tries=2), question_of_parts(
            0, part_of((0, (-1, -1))), part_of((1, (-1,)))))
        other = ban_of((1, (-1,)), (1, (-2,)), (1, (-3,)))
        self.assert_limit(guard, (), other, no_ban(), tries=1)
        self.assertEqual(guard((), other, no_ban(), tries=2), ban_of((1, (-3,))))
        self.assert_limit(guard, (put((1, (3,)),),), other, no_ban(), tries=7)

    def test_drawn_limits(self):
        draws = Draws(66)
        met = {"back": 0, "trim": 0, "none": 0}
        for _ in range(200):
            program, other = draws.program(KINDS, (-1, -2, 0), 3), draws.question(KINDS, 0, (-1, -2, -3, 0), 3)
            for tries in (1, 3, 9, 27):
                back = outcome(led_back, program, other, tries=tries)
                told = back if back[0] == "limit" else outcome(literal_trimmed, back[1], NO_LOOPS, tries=tries)
                self.assertEqual(shape(outcome(guard, program, other, NO_LOOPS, tries=tries)), shape(told))
                met["back" if back[0] == "limit" else "trim" if told[0] == "limit" else "none"] += 1
        self.assertGreater(min(met.values()), 40)

    def test_arguments(self):
        self.assertEqual(guard(ban=NO_LOOPS, other=NO_LOOPS, program=(LOOPS,), tries=300), ban_of((1, (-1,))))
        with self.assertRaises(TypeError):
            guard((LOOPS,), NO_LOOPS, NO_LOOPS, 300)


if __name__ == "__main__":
    unittest.main()
