"""Terms, parts and questions: points 2, 5 and 14, and the interface of questions.py."""

import itertools
import unittest

from builders import ban_of
from variations import OTHER_VALUES, Unchanged, at, deep, exchanged, of_other_kinds, places, same_but_wrong, shape

from backasked.errors import InvalidQuestion
from backasked.questions import known_by, known_things, no_ban, question_of, require_question, variables_of

KINDS = (2, 1, 0)
PART = ((-1,), ((0, (-1, -2)), (0, (-2, 3))), ((-2, 5),))
# 0 and 1 stand at each depth, so that booleans can be put in for them.
RICH = (1, (
    ((-1,), ((0, (-1, 1)), (1, (0,)), (2, ())), ((-1, 0), (-1, 1), (0, 1))),
    ((0,), (), ()),
    ((1,), ((1, (1,)),), ()),
))
EMPTY_PART = ((), (), ())


def many_parts(many):
    """A question of arity 2 with so many parts."""
    heads = itertools.product(range(10), repeat=2)
    parts = [(head, ((0, things),), ()) for head in heads for things in itertools.product(range(10), repeat=2)]
    return (2, tuple(parts[:many]))


class QuestionCase(unittest.TestCase):
    def assert_question(self, value, kinds=KINDS):
        with Unchanged(self, kinds, value):
            found = require_question(kinds, value)
        self.assertEqual(shape(found), shape(value))

    def assert_wrong(self, value, part, kinds=KINDS):
        with Unchanged(self, kinds, value):
            with self.assertRaises(InvalidQuestion) as caught:
                require_question(kinds, value)
        self.assertEqual(shape(caught.exception.part), shape(part), value)


class WholeQuestionTest(QuestionCase):
    def test_questions(self):
        for value in ((0, ()), (1, ()), (2, ()), (1, (PART,)), RICH, (0, (EMPTY_PART,)), many_parts(10)):
            self.assert_question(value)

    def test_no_pair(self):
        others = (*OTHER_VALUES, 0, 1, -1, (), (0,), (1, (), ()), (0, (), ()), ((),), PART, list(RICH), [0, ()])
        for value in others:
            self.assert_wrong(value, None)

    def test_arities(self):
        for arity in range(3):
            self.assert_question((arity, (((3, 4)[:arity], (), ()),)))
        for arity in (-1, -2, 3, 4, True, False, None, "1", "", (), (1,), [1], {}, 10 ** 30, -10 ** 30):
            self.assert_wrong((arity, ()), "arity")
            self.assert_wrong((arity, (((3,), (), ()),)), "arity")

    def test_parts_are_no_tuple(self):
        for parts in (*OTHER_VALUES, 0, 1, [PART], {0: PART}):
            self.assert_wrong((1, parts), "parts")

    def test_which_error_is_first(self):
        self.assert_wrong((3, [], ()), None)
        self.assert_wrong((3, []), "arity")
        self.assert_wrong((True, [None]), "arity")
        self.assert_wrong((1, [None]), "parts")
        self.assert_wrong((1, (None,) * 1001), "parts")
        self.assert_wrong((3, (None,) * 1001), "arity")
        self.assert_wrong((1, (None,) * 1000), 0)

    def test_number_of_parts(self):
        self.assert_question(many_parts(999))
        self.assert_question(many_parts(1000))
        self.assert_wrong(many_parts(1001), "parts")
        arity, parts = many_parts(1000)
        self.assert_wrong((arity, (*parts, None)), "parts")
        self.assert_wrong((arity, (*parts[:-1], None)), 999)
        self.assert_wrong((arity, (*parts[:-1], parts[0])), 999)

    def test_parts_out_of_order_and_twice(self):
        arity, parts = RICH
        for row in itertools.product(parts, repeat=3):
            wrong = [k for k in (1, 2) if row[k] <= row[k - 1]]
            if wrong:
                self.assert_wrong((arity, row), wrong[0])
            else:
                self.assert_question((arity, row))

    def test_the_first_wrong_part_is_told(self):
        low, high = RICH[1][0], RICH[1][2]
        for none in (None, True, "a", [], (), ((-1,), (), ()), ((0,), [], ()), ((0, 1), (), ())):
            self.assert_wrong((1, (none, high, low)), 0)
            self.assert_wrong((1, (low, none, high, low)), 1)
            self.assert_wrong((1, (high, low, none)), 1)
            self.assert_wrong((1, (low, high, high, none)), 2)
            self.assert_wrong((1, (low, high, none, low)), 2)

    def test_a_wrong_part_is_not_compared(self):
        low = RICH[1][0]
        for none in (None, ("a", (), ()), (("a",), (), ()), ((0,), None, ()), ((0,), ((None, ()),), ())):
            self.assert_wrong((1, (low, none)), 1)

    def test_a_head_of_another_length(self):
        for arity in range(3):
            for length in range(4):
                value = (arity, (((3, 4, 5)[:length], (), ()),))
                if length == arity:
                    self.assert_question(value)
                else:
                    self.assert_wrong(value, 0)
        self.assert_wrong((1, (((0,), (), ()), ((0, 1), (), ()))), 1)

    def test_booleans_and_lists_at_each_depth(self):
        self.assert_question(RICH)
        tried = 0
        for path, wrong in same_but_wrong(RICH):
            self.assert_wrong(wrong, self.told_for(path))
            tried += 1
        self.assertGreater(tried, 30)

    def test_other_kinds_of_values_at_each_depth(self):
        for value in (RICH, (1, (PART,))):
            for path, wrong in of_other_kinds(value):
                self.assert_wrong(wrong, self.told_for(path))

    def told_for(self, path):
        """What is told of a value that has a wrong form at a path."""
        if path == ():
            return None
        if path == (0,):
            return "arity"
        return "parts" if path == (1,) else path[1]

    def test_each_tuple_with_one_thing_less_or_more(self):
        for value in (RICH, (1, (PART,))):
            for path in places(value):
                whole = at(value, path)
                if isinstance(whole, tuple) and path not in ((1,), (1, 0, 1), (1, 1, 1), (1, 1, 2), (1, 2, 1)):
                    # Pairs and parts may be left out; other tuples may not be longer or shorter.
                    shorter = [] if path[2:] in ((2,),) or not whole else [whole[:-1]]
                    longer = [(*whole, None)]
                    for other in shorter + longer:
                        self.assert_wrong(exchanged(value, path, other), self.told_for(path))

    def test_nested_values(self):
        self.assert_wrong(deep(40), None)
        self.assert_wrong((0, deep(39)), 0)
        self.assert_wrong((0, (((), deep(37), ()),)), 0)
        self.assert_wrong((0, (((), (), deep(37)),)), 0)

    def test_large_values(self):
        rows = (
            ((0,) * 1000000, None), ((0, (EMPTY_PART,) * 1000000), "parts"),
            ((0, (((), ((2, ()),) * 200000, ()),)), 0), ((0, (((), (), ((0, 1),) * 200000),)), 0),
            ((1, (((0,) * 1000000, (), ()),)), 0),
        )
        for value, part in rows:
            with self.assertRaises(InvalidQuestion) as caught:
                require_question(KINDS, value)
            self.assertEqual(caught.exception.part, part)

    def test_arguments_by_name(self):
        self.assertEqual(require_question(value=RICH, kinds=KINDS), RICH)


class PartTest(QuestionCase):
    def test_number_of_atoms(self):
        for many in range(7):
            self.assert_question(ban_of(*[(1, (-1,))] * many))
            self.assert_question(ban_of(*[(0, (-1, thing)) for thing in range(many)]))
        for many in (7, 8, 100):
            self.assert_wrong(ban_of(*[(1, (-1,))] * many), 0)
            self.assert_wrong(ban_of(*[(0, (-1, thing)) for thing in range(9)][:many], *[(2, ())] * (many - 9)), 0)

    def test_terms(self):
        for term in range(-8, 10):
            self.assert_question(ban_of((1, (term,))))
            self.assert_question(ban_of((0, (term, 3)), (0, (3, term))))
            self.assert_question((1, (((term,), ((1, (term,)),), ()),)))
            self.assert_question((2, (((3, term), ((0, (term, 3)),), ()),)))
            for other in range(term + 1, 10):
                self.assert_question(ban_of((0, (term, other)), unlike=((term, other),)))
        for term in (-9, -10, 10, 11, 29, 10 ** 30, -10 ** 30):
            self.assert_wrong(ban_of((1, (term,))), 0)
            self.assert_wrong(ban_of((0, (term, 3))), 0)
            self.assert_wrong(ban_of((0, (3, term))), 0)
            self.assert_wrong((1, (((term,), ((1, (term,)),), ()),)), 0)
            self.assert_wrong((1, (((term,), (), ()),)), 0)
            self.assert_wrong((2, (((3, term), (), ()),)), 0)
            pair = (term, 3) if term < 3 else (3, term)
            self.assert_wrong(ban_of((1, (term,)), unlike=(pair,)), 0)
            self.assert_wrong(ban_of((1, (3,)), unlike=(pair,)), 0)

    def test_eight_variables(self):
        body = tuple((0, (-1 - 2 * k, -2 - 2 * k)) for k in range(4))
        self.assert_question((2, (((-8, -1), body, ((-8, -7), (-2, -1))),)))

    def test_numbers_of_terms(self):
        for kind, many in enumerate(KINDS):
            for length in range(4):
                value = ban_of((kind, (-1, -2, 3)[:length]))
                if length == many:
                    self.assert_question(value)
                else:
                    self.assert_wrong(value, 0)

    def test_kinds_of_atoms(self):
        for many in range(3):
            for kind in (-1, -2, -3, 3, 4, 10 ** 30):
                self.assert_wrong(ban_of((kind, (-1, -2)[:many])), 0)
        for kinds in ((0,), (1,), (2,), (0, 1, 2, 2), (2, 2)):
            last = len(kinds) - 1
            self.assert_question(ban_of((last, (-1, -2)[:kinds[last]])), kinds)
            for kind in (len(kinds), -1):
                for many in range(3):
                    self.assert_wrong(ban_of((kind, (-1, -2)[:many])), 0, kinds)

    def test_an_atom_twice(self):
        self.assert_question(ban_of((0, (-1, -2)), (0, (-1, -2))))
        self.assert_question(ban_of((0, (-1, -2)), (2, ()), (0, (-1, -2))))
        self.assert_question(ban_of((0, (-2, -1)), (0, (-3, -1))))

    def test_atoms_and_pairs_of_other_lengths(self):
        for atom in ((), (0,), ((-1, -2),), (0, (-1, -2), ()), (0, -1, -2), (2,), 2, (2, (), ())):
            self.assert_wrong(ban_of(atom), 0)
        for pair in ((), (-1,), (-2, -1, 3), -1, ((-2, -1),)):
            self.assert_wrong(ban_of((0, (-1, -2)), unlike=(pair,)), 0)
            self.assert_wrong(ban_of((0, (-1, -2)), unlike=((-2, -1), pair)), 0)
        for part in ((), ((),), ((), ()), ((), (), (), ()), (0, (), ())):
            self.assert_wrong((0, (part,)), 0)

    def test_pairs(self):
        pairs = tuple(itertools.product((-2, -1, 0, 3), repeat=2))
        body = ((0, (-1, -2)),)
        for many in (1, 2):
            for unlike in itertools.product(pairs, repeat=many):
                good = all(low < high for low, high in unlike) and sorted(set(unlike)) == list(unlike)
                if good:
                    self.assert_question(ban_of(*body, unlike=unlike))
                else:
                    self.assert_wrong(ban_of(*body, unlike=unlike), 0)

    def test_all_pairs(self):
        body = tuple((0, (-1 - 2 * k, -2 - 2 * k)) for k in range(4))
        pairs = tuple(itertools.combinations(range(-8, 10), 2))
        self.assertEqual(len(pairs), 153)
        self.assert_question(ban_of(*body, unlike=pairs))
        self.assert_wrong(ban_of(*body, unlike=(*pairs, pairs[-1])), 0)
        self.assert_wrong(ban_of(*body, unlike=(*pairs, (9, 9))), 0)
        self.assert_wrong(ban_of(*body, unlike=(*pairs, (9, 10))), 0)

    def test_variables_stand_in_the_body(self):
        for variable in range(-8, 0):
            other = variable + 1 if variable < -1 else -8
            for atom in ((1, (variable,)), (0, (variable, 3)), (0, (3, variable))):
                self.assert_question((1, (((variable,), (atom,), ((variable, 4),)),)))
                self.assert_wrong((1, (((other,), (atom,), ()),)), 0)
                self.assert_wrong((2, (((variable, other), (atom,), ()),)), 0)
                self.assert_wrong(ban_of(atom, unlike=((other, 4),)), 0)
                self.assert_wrong(ban_of(atom, unlike=(tuple(sorted((variable, other))),)), 0)
        self.assert_wrong((1, (((-1,), (), ()),)), 0)
        self.assert_wrong((0, (((), (), ((-2, -1),)),)), 0)
        self.assert_wrong((0, (((), ((2, ()),), ((-1, 3),)),)), 0)

    def test_a_variable_of_the_head_and_the_pairs_alone(self):
        # The pairs do not bring a variable in for the head, nor the head one for the pairs.
        self.assert_wrong((1, (((-1,), ((1, (3,)),), ((-1, 3),)),)), 0)
        self.assert_wrong((1, (((-1,), ((1, (-2,)),), ((-1, 3),)),)), 0)

    def test_things_need_not_stand_in_the_body(self):
        self.assert_question((2, (((3, 3), (), ((4, 5),)),)))
        self.assert_question((1, (((9,), ((1, (-1,)),), ((-1, 0), (0, 9))),)))


class VariablesTest(unittest.TestCase):
    def test_example_of_the_interface(self):
        told = (variables_of(PART), known_things((1, (PART,))))
        self.assertEqual(told, ((-1, -2), (3, 5)))

    def assert_variables(self, body, expected, head=(), unlike=()):
        part = (head, body, unlike)
        with Unchanged(self, part):
            self.assertEqual(shape(variables_of(part)), shape(expected))

    def test_no_variables(self):
        self.assert_variables((), ())
        self.assert_variables(((2, ()),), ())
        self.assert_variables(((0, (3, 4)), (1, (0,))), (), head=(1, 2), unlike=((3, 4),))

    def test_order(self):
        self.assert_variables(((0, (-2, -1)),), (-2, -1))
        self.assert_variables(((0, (-1, -2)),), (-1, -2))
        self.assert_variables(((0, (-5, 3)), (1, (-8,)), (0, (-1, -3))), (-5, -8, -1, -3))
        self.assert_variables(((0, (-2, -1)),), (-2, -1), head=(-1, -2), unlike=((-2, -1),))
        self.assert_variables(((0, (9, -1)), (2, ()), (0, (0, -7))), (-1, -7))

    def test_repeated_variables(self):
        self.assert_variables(((0, (-1, -1)),), (-1,))
        self.assert_variables(((0, (-3, -1)), (0, (-1, -3)), (0, (-3, -2)), (1, (-1,))), (-3, -1, -2))

    def test_each_row_of_terms(self):
        for terms in itertools.product((-2, -1, 3), repeat=4):
            seen = [term for k, term in enumerate(terms) if term < 0 and term not in terms[:k]]
            self.assert_variables(((0, terms[:2]), (0, terms[2:])), tuple(seen))

    def test_eight_variables(self):
        body = tuple((0, (-8 + 2 * k, -7 + 2 * k)) for k in range(4))
        self.assert_variables(body, (-8, -7, -6, -5, -4, -3, -2, -1))

    def test_arguments_by_name(self):
        self.assertEqual(variables_of(part=PART), (-1, -2))


class KnownTest(unittest.TestCase):
    def assert_known(self, question, expected):
        with Unchanged(self, question):
            self.assertEqual(shape(known_things(question)), shape(expected))

    def test_no_known_things(self):
        for question in (no_ban(), (2, ()), (0, (EMPTY_PART,)), question_of((2, 2), 1), ban_of((2, ()), (1, (-1,)))):
            self.assert_known(question, ())

    def test_head_body_and_pairs(self):
        self.assert_known((1, (((7,), (), ()),)), (7,))
        self.assert_known((2, (((9, 0), ((1, (-1,)),), ()),)), (0, 9))
        self.assert_known(ban_of((1, (7,))), (7,))
        self.assert_known(ban_of((0, (-1, 2)), (0, (1, -1))), (1, 2))
        self.assert_known(ban_of((1, (-1,)), unlike=((-1, 7),)), (7,))
        self.assert_known(ban_of(unlike=((4, 7),)), (4, 7))
        self.assert_known((1, (((6,), ((1, (-1,)), (1, (0,))), ((-1, 3),)),)), (0, 3, 6))

    def test_kinds_are_no_things(self):
        self.assert_known(ban_of((1, (-1,)), (2, ())), ())
        self.assert_known((2, ()), ())

    def test_a_set(self):
        self.assert_known((2, (((5, 5), ((0, (5, 5)), (0, (1, 5))), ((1, 5),)),)), (1, 5))
        self.assert_known((1, (((8,), (), ()), ((9,), (), ()))), (8, 9))
        self.assert_known((1, (((2,), ((1, (9,)),), ()), ((3,), ((1, (0,)),), ()))), (0, 2, 3, 9))

    def test_all_things(self):
        parts = tuple(((), ((1, (thing,)),), ()) for thing in range(10))
        self.assert_known((0, parts), tuple(range(10)))

    def test_several_questions(self):
        one, other = ban_of((1, (7,)), unlike=((3, 4),)), (1, (((5,), ((1, (3,)),), ()),))
        rows = (
            ((), ()), ((one,), (3, 4, 7)), ((other,), (3, 5)), ((one, other), (3, 4, 5, 7)),
            ((other, one), (3, 4, 5, 7)), ((one, one), (3, 4, 7)), ((no_ban(), other, no_ban()), (3, 5)),
            ((no_ban(),), ()), ((no_ban(), question_of((2,), 0)), ()),
        )
        for questions, expected in rows:
            with Unchanged(self, questions):
                self.assertEqual(shape(known_by(questions)), shape(expected))

    def test_arguments_by_name(self):
        self.assertEqual(known_things(question=(1, (PART,))), (3, 5))
        self.assertEqual(known_by(questions=((1, (PART,)),)), (3, 5))


class MadeQuestionsTest(unittest.TestCase):
    def test_question_of_a_kind(self):
        expected = {
            0: (0, (((), ((0, ()),), ()),)),
            1: (1, (((-1,), ((0, (-1,)),), ()),)),
            2: (2, (((-1, -2), ((0, (-1, -2)),), ()),)),
        }
        for many in range(3):
            self.assertEqual(shape(question_of((many,), 0)), shape(expected[many]))

    def test_question_of_each_kind(self):
        for kinds in ((2, 1, 0), (0, 1, 2, 2), (1, 1), (0, 2, 0)):
            for kind, many in enumerate(kinds):
                terms = (-1, -2)[:many]
                with Unchanged(self, kinds):
                    found = question_of(kinds, kind)
                self.assertEqual(shape(found), shape((many, ((terms, ((kind, terms),), ()),))))
                self.assertEqual(require_question(kinds, found), found)

    def test_no_ban(self):
        self.assertEqual(shape(no_ban()), shape((0, ())))
        self.assertEqual(require_question((0,), no_ban()), (0, ()))

    def test_arguments_by_name(self):
        self.assertEqual(question_of(kind=1, kinds=(2, 1)), (1, (((-1,), ((1, (-1,)),), ()),)))


if __name__ == "__main__":
    unittest.main()
