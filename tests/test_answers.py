"""When parts hold, answers and bans: point 6, and the interface of answers.py."""

import itertools
import unittest

from builders import ban_of, part_of
from models import Draws, model_answers, model_values, stores_over
from variations import Unchanged, shape

from backasked.answers import answers, body_with, head_with, holds, keeps, values_for
from backasked.questions import no_ban, variables_of

KINDS = (2, 1, 0)
PART = ((-1,), ((0, (-1, -2)), (0, (-2, 3))), ((-2, 5),))
STORE = ((0, (1, 2)), (0, (2, 2)), (0, (2, 3)), (0, (3, 1)), (1, (2,)), (1, (3,)), (2, ()))


class ExamplesTest(unittest.TestCase):
    def test_examples_of_the_interface(self):
        store, ban = ((0, (1, 2)), (0, (2, 3))), (0, (((), ((0, (-1, -1)),), ()),))
        told = (values_for(PART, store), answers((1, (PART,)), store), keeps(ban, store))
        self.assertEqual(shape(told), shape((((1, 2),), ((1,),), True)))


class PutInTest(unittest.TestCase):
    def assert_put_in(self, part, values, body, head):
        with Unchanged(self, part, values):
            self.assertEqual(shape(body_with(part, values)), shape(body))
            self.assertEqual(shape(head_with(part, values)), shape(head))

    def test_several_variables(self):
        self.assert_put_in(PART, (7, 29), ((0, (7, 29)), (0, (29, 3))), (7,))
        self.assert_put_in(PART, (4, 4), ((0, (4, 4)), (0, (4, 3))), (4,))

    def test_values_are_in_the_order_of_the_body(self):
        part = ((-1, -2), ((0, (-2, -1)), (1, (-3,))), ((-3, -1),))
        self.assert_put_in(part, (10, 11, 12), ((0, (10, 11)), (1, (12,))), (11, 10))
        part = ((-2, -5), ((1, (-5,)), (0, (3, -5)), (0, (-2, -5))), ())
        self.assert_put_in(part, (20, 21), ((1, (20,)), (0, (3, 20)), (0, (21, 20))), (21, 20))

    def test_values_that_are_like_a_thing_of_the_part(self):
        # A value is not read as a term: the thing 3 of the part and the value 3 are the same thing.
        self.assert_put_in(((-1, 3), ((0, (-1, 3)),), ()), (3,), ((0, (3, 3)),), (3, 3))

    def test_pairs_are_not_looked_at(self):
        self.assert_put_in(PART, (5, 5), ((0, (5, 5)), (0, (5, 3))), (5,))

    def test_no_variables(self):
        self.assert_put_in(part_of((0, (3, 4)), (2, ()), head=(9, 0)), (), ((0, (3, 4)), (2, ())), (9, 0))

    def test_an_empty_body(self):
        self.assert_put_in(part_of(), (), (), ())
        self.assert_put_in(part_of(head=(3, 3)), (), (), (3, 3))

    def test_the_body_is_no_set(self):
        self.assert_put_in(part_of((1, (-1,)), (0, (-1, -2)), (1, (-1,))), (8, 9), ((1, (8,)), (0, (8, 9)), (1, (8,))), ())
        self.assert_put_in(part_of((1, (-1,)), (1, (-2,))), (8, 8), ((1, (8,)), (1, (8,))), ())

    def test_arguments_by_name(self):
        self.assertEqual(body_with(values=(1, 2), part=PART), ((0, (1, 2)), (0, (2, 3))))
        self.assertEqual(head_with(values=(1, 2), part=PART), (1,))


class HoldsTest(unittest.TestCase):
    def assert_holds(self, part, values, store, expected):
        with Unchanged(self, part, values, store):
            self.assertIs(holds(part, values, store), expected)

    def test_all_facts_are_there(self):
        self.assert_holds(PART, (1, 2), STORE, True)
        self.assert_holds(PART, (2, 2), STORE, True)
        self.assert_holds(PART, (3, 1), STORE, False)
        self.assert_holds(PART, (1, 3), STORE, False)
        self.assert_holds(PART, (1, 2), (), False)

    def test_pairs(self):
        body = ((0, (-1, -2)),)
        rows = (
            (((-2, -1),), (1, 2), True), (((-2, -1),), (2, 2), False), (((-2, 2),), (1, 2), False),
            (((-1, 2),), (1, 2), True), (((-2, 3), (-1, 2)), (2, 3), False), (((3, 4),), (2, 2), True),
            (((-2, -1), (3, 4)), (2, 2), False), (((-2, 1), (-1, 2)), (1, 2), True),
        )
        for unlike, values, expected in rows:
            self.assert_holds(part_of(*body, unlike=tuple(sorted(unlike))), values, STORE, expected)

    def test_pairs_alone(self):
        self.assert_holds(part_of(unlike=((3, 4),)), (), (), True)
        self.assert_holds(part_of(), (), (), True)
        self.assert_holds(part_of(head=(3,)), (), STORE, True)

    def test_no_things(self):
        self.assert_holds(part_of((2, ())), (), STORE, True)
        self.assert_holds(part_of((2, ())), (), STORE[:-1], False)

    def test_arguments_by_name(self):
        self.assertIs(holds(store=STORE, values=(1, 2), part=PART), True)
        self.assertIs(holds(PART, (1, 2), store=()), False)


class ValuesTest(unittest.TestCase):
    def assert_values(self, part, expected, store=STORE):
        with Unchanged(self, part, store):
            self.assertEqual(shape(values_for(part, store)), shape(expected))

    def test_one_atom(self):
        self.assert_values(part_of((0, (-1, -2))), ((1, 2), (2, 2), (2, 3), (3, 1)))
        self.assert_values(part_of((0, (-2, -1))), ((1, 2), (2, 2), (2, 3), (3, 1)))
        self.assert_values(part_of((0, (-1, -1))), ((2,),))
        self.assert_values(part_of((0, (2, -1))), ((2,), (3,)))
        self.assert_values(part_of((0, (-1, 2))), ((1,), (2,)))
        self.assert_values(part_of((0, (-1, 9))), ())
        self.assert_values(part_of((1, (-1,))), ((2,), (3,)))

    def test_no_variables(self):
        self.assert_values(part_of((0, (3, 1)), (2, ()), (1, (2,))), ((),))
        self.assert_values(part_of((0, (3, 1)), (1, (1,))), ())
        self.assert_values(part_of((2, ())), ((),))
        self.assert_values(part_of((2, ())), (), STORE[:-1])

    def test_an_empty_body(self):
        self.assert_values(part_of(), ((),))
        self.assert_values(part_of(), ((),), ())
        self.assert_values(part_of(head=(9,), unlike=((3, 4),)), ((),), ())

    def test_an_atom_twice(self):
        self.assert_values(part_of((0, (-1, -2)), (0, (-1, -2))), ((1, 2), (2, 2), (2, 3), (3, 1)))
        self.assert_values(part_of((2, ()), (2, ()), (1, (-1,)), (2, ()), (1, (-1,))), ((2,), (3,)))

    def test_joins(self):
        self.assert_values(PART, ((1, 2), (2, 2)))
        self.assert_values(part_of((0, (-1, -2)), (0, (-2, -3)), (0, (-3, -1))), ((1, 2, 3), (2, 2, 2), (2, 3, 1), (3, 1, 2)))
        self.assert_values(part_of((1, (-1,)), (0, (-2, -1))), ((2, 1), (2, 2), (3, 2)))
        self.assert_values(part_of((1, (-2,)), (1, (-1,))), ((2, 2), (2, 3), (3, 2), (3, 3)))
        self.assert_values(part_of((0, (-1, -2)), (1, (-3,)), (0, (-2, -1))), ((2, 2, 2), (2, 2, 3)))

    def test_the_kind_counts(self):
        store = ((0, (3,)), (1, (4,)), (2, (5,)))
        self.assert_values(part_of((1, (-1,))), ((4,),), store)
        self.assert_values(part_of((0, (-1,)), (2, (-1,))), (), store)

    def test_pairs(self):
        body = ((0, (-1, -2)),)
        rows = (
            (((-2, -1),), ((1, 2), (2, 3), (3, 1))), (((-2, 2),), ((2, 3), (3, 1))), (((-1, 2),), ((1, 2), (3, 1))),
            (((3, 4),), ((1, 2), (2, 2), (2, 3), (3, 1))), (((-2, -1), (-2, 1), (-1, 2)), ((1, 2),)),
            (((-2, 1), (-2, 2), (-2, 3)), ()), (((-2, 9), (-1, 4)), ((1, 2), (2, 2), (2, 3), (3, 1))),
            (((-2, -1), (1, 2), (3, 4)), ((1, 2), (2, 3), (3, 1))),
        )
        for unlike, expected in rows:
            self.assert_values(part_of(*body, unlike=unlike), expected)

    def test_a_pair_with_the_first_place(self):
        self.assert_values(part_of((1, (-1,)), (1, (-2,)), unlike=((-2, -1),)), ((2, 3), (3, 2)))
        self.assert_values(part_of((1, (-2,)), (1, (-1,)), unlike=((-2, 2),)), ((3, 2), (3, 3)))
        self.assert_values(part_of((1, (-2,)), (1, (-1,)), unlike=((-1, 2),)), ((2, 3), (3, 3)))

    def test_the_empty_store(self):
        self.assert_values(PART, (), ())
        self.assert_values(part_of((2, ())), (), ())

    def test_ascending_whatever_the_order_of_variables(self):
        store = tuple((0, (one, other)) for one in range(5) for other in range(5))
        for terms in ((-1, -2), (-2, -1), (-3, -7)):
            expected = tuple(itertools.product(range(5), repeat=2))
            self.assert_values(part_of((0, terms)), expected, store)
        self.assert_values(part_of((0, (3, -1)), (0, (-2, -1))), expected, store)

    def test_greatest_things(self):
        self.assert_values(part_of((0, (-1, -2)), unlike=((-2, 9),)), ((9, 29), (29, 0)), ((0, (9, 29)), (0, (29, 0)), (0, (29, 9))))

    def test_eight_variables(self):
        part = part_of(*[(0, (-1 - 2 * k, -2 - 2 * k)) for k in range(4)])
        store = ((0, (1, 2)), (0, (3, 4)))
        expected = tuple(sum(rows, ()) for rows in itertools.product(((1, 2), (3, 4)), repeat=4))
        self.assert_values(part, expected, store)

    def test_against_all_values(self):
        for part, store in drawn_parts():
            with Unchanged(self, part, store):
                found = values_for(part, store)
            self.assertEqual(shape(found), shape(model_values(part, store)), (part, store))
            things = range(5)
            for values in itertools.product(things, repeat=len(variables_of(part))):
                self.assertIs(holds(part, values, store), values in found, (part, values, store))

    def test_a_hundred_thousand_rows(self):
        kinds_of_rows = [(0, (one, other)) for one in range(30) for other in range(30)]
        store = tuple(kinds_of_rows[:316])
        part = part_of((0, (-1, -2)), (0, (-3, -4)), head=(-1,), unlike=((-4, -1), (-3, -2)))
        found = values_for(part, store)
        self.assertEqual(found, tuple(sorted(set(found))))
        expected = [(*one, *other) for _, one in store for _, other in store if one[0] != other[1] and one[1] != other[0]]
        self.assertEqual(list(found), expected)
        self.assertEqual(answers((1, (part,)), store), tuple((thing,) for thing in range(11)))

    def test_a_full_store(self):
        store = tuple((kind, things) for kind in range(4) for things in itertools.product(range(30), repeat=2))
        part = part_of((0, (-1, -2)), (1, (-2, -1)), (2, (-1, -2)), (3, (-2, -1)), head=(-1, -2))
        self.assertEqual(answers((2, (part,)), store), tuple(itertools.product(range(30), repeat=2)))

    def test_arguments_by_name(self):
        self.assertEqual(values_for(store=STORE, part=PART), ((1, 2), (2, 2)))


class AnswersTest(unittest.TestCase):
    def assert_answers(self, question, expected, store=STORE):
        with Unchanged(self, question, store):
            self.assertEqual(shape(answers(question, store)), shape(expected))

    def test_heads(self):
        body = ((0, (-1, -2)),)
        self.assert_answers((1, (((-1,), body, ()),)), ((1,), (2,), (3,)))
        self.assert_answers((1, (((-2,), body, ()),)), ((1,), (2,), (3,)))
        self.assert_answers((2, (((-2, -1), body, ()),)), ((1, 3), (2, 1), (2, 2), (3, 2)))
        self.assert_answers((2, (((-1, -1), body, ()),)), ((1, 1), (2, 2), (3, 3)))
        self.assert_answers((2, (((7, -1), body, ()),)), ((7, 1), (7, 2), (7, 3)))
        self.assert_answers((1, (((8,), body, ()),)), ((8,),))
        self.assert_answers((0, (((), body, ()),)), ((),))

    def test_no_parts(self):
        for arity in range(3):
            self.assert_answers((arity, ()), ())
            self.assert_answers((arity, ()), (), ())

    def test_the_empty_store(self):
        self.assert_answers((1, (PART,)), (), ())
        self.assert_answers((1, (PART, ((4,), (), ()))), ((4,),), ())
        self.assert_answers((0, (((), (), ()),)), ((),), ())

    def test_answers_of_two_parts_once(self):
        one, other = ((-1,), ((0, (-1, -2)),), ()), ((-1,), ((1, (-1,)),), ())
        self.assert_answers((1, (one,)), ((1,), (2,), (3,)))
        self.assert_answers((1, (other,)), ((2,), (3,)))
        self.assert_answers((1, (one, other)), ((1,), (2,), (3,)))
        self.assert_answers((1, (other, ((0,), ((2, ()),), ()))), ((0,), (2,), (3,)))
        self.assert_answers((0, (((), ((1, (-1,)),), ()), ((), ((2, ()),), ()))), ((),))

    def test_against_all_values(self):
        draws = Draws(3)
        for _ in range(1500):
            question = draws.question(KINDS, draws.below(3), (-1, -2, -3, 0, 1), 3)
            store = draws.store(KINDS, (0, 1, 2, 4), 16)
            with Unchanged(self, question, store):
                found = answers(question, store)
            self.assertEqual(shape(found), shape(model_answers(question, store)), (question, store))

    def test_on_all_small_stores(self):
        draws = Draws(4)
        questions = [draws.question((2, 1), draws.below(3), (-1, -2, -3, 1), 3) for _ in range(40)]
        for store in stores_over((2, 1), (1, 5)):
            for question in questions:
                self.assertEqual(answers(question, store), model_answers(question, store), (question, store))

    def test_more_facts_have_no_fewer_answers(self):
        draws = Draws(5)
        for _ in range(400):
            question = draws.question(KINDS, 1, (-1, -2, -3, 0, 1), 3)
            store = draws.store(KINDS, (0, 1, 2), 9)
            less = tuple(fact for fact in store if draws.below(2))
            self.assertLessEqual(set(answers(question, less)), set(answers(question, store)))

    def test_two_things_exchanged(self):
        draws = Draws(6)
        swap = {2: 29, 29: 2}
        for _ in range(400):
            question = draws.question(KINDS, 2, (-1, -2, -3, 0, 1), 3)
            store = draws.store(KINDS, (0, 1, 2, 29), 9)
            other = tuple(sorted((kind, tuple(swap.get(thing, thing) for thing in things)) for kind, things in store))
            expected = sorted(tuple(swap.get(thing, thing) for thing in row) for row in answers(question, store))
            self.assertEqual(answers(question, other), tuple(expected))

    def test_arguments_by_name(self):
        self.assertEqual(answers(store=STORE, question=(1, (PART,))), ((1,), (2,)))


class KeepsTest(unittest.TestCase):
    def assert_keeps(self, ban, expected, store=STORE):
        with Unchanged(self, ban, store):
            self.assertIs(keeps(ban, store), expected)
            self.assertIs(keeps(ban, store), () not in answers(ban, store))

    def test_no_parts(self):
        self.assert_keeps(no_ban(), True)
        self.assert_keeps(no_ban(), True, ())

    def test_an_empty_body(self):
        self.assert_keeps((0, (((), (), ()),)), False)
        self.assert_keeps((0, (((), (), ()),)), False, ())
        self.assert_keeps((0, (((), (), ((3, 4),)),)), False, ())

    def test_one_part(self):
        self.assert_keeps(ban_of((0, (-1, -1))), False)
        self.assert_keeps(ban_of((0, (-1, -1)), unlike=((-1, 2),)), True)
        self.assert_keeps(ban_of((0, (-1, -1)), unlike=((-1, 3),)), False)
        self.assert_keeps(ban_of((1, (-1,)), (0, (-1, 1))), False)
        self.assert_keeps(ban_of((1, (-1,)), (0, (-1, 4))), True)
        self.assert_keeps(ban_of((2, ())), False)
        self.assert_keeps(ban_of((2, ())), True, ())

    def test_each_part_counts(self):
        none, some = ((), ((0, (9, -1)),), ()), ((), ((1, (-1,)),), ())
        self.assert_keeps((0, (none,)), True)
        self.assert_keeps((0, (some,)), False)
        self.assert_keeps((0, (none, some)), False)
        self.assert_keeps((0, (some, ((), ((1, (7,)),), ()))), False)
        self.assert_keeps((0, (none, ((), ((1, (7,)),), ()))), True)

    def test_against_answers(self):
        draws = Draws(7)
        kept = 0
        for _ in range(800):
            ban = draws.question(KINDS, 0, (-1, -2, 0, 1), 3)
            store = draws.store(KINDS, (0, 1, 2), 10)
            self.assert_keeps(ban, model_answers(ban, store) == (), store)
            kept += keeps(ban, store)
        self.assertTrue(160 < kept < 640, kept)

    def test_arguments_by_name(self):
        self.assertIs(keeps(store=STORE, ban=no_ban()), True)


def drawn_parts():
    """Some parts, each with a small store."""
    draws = Draws(2)
    for _ in range(800):
        part = draws.part(KINDS, draws.below(3), (-1, -2, -3, 0, 1), 3)
        yield part, draws.store(KINDS, (0, 1, 2, 4), 16)


if __name__ == "__main__":
    unittest.main()
