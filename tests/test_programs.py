"""Deeds and programs, and what they do to a store: points 2, 7 and 8, and the interface of programs.py."""

import itertools
import unittest

from builders import put, take, turn
from models import Draws, model_done, model_run, stores_over
from variations import OTHER_VALUES, Unchanged, deep, exchanged, of_other_kinds, same_but_wrong, shape

from backasked.errors import InvalidProgram
from backasked.programs import done, is_met, require_program, run

KINDS = (2, 1, 0)
# 0 and 1 stand at each depth, so that booleans can be put in for them.
PUT = ("put", (0, (-1, 1)), ((0, (-1, 0)), (1, (1,))), ((-1, 0), (0, 1)))
TAKE = ("take", (0, (-1, 1)), ((-1, 0), (-1, 1)))
TURN = ("turn", (0, (-1, 0)), ((-1, 1), (0, 1)), (1, -1))
PLAIN = ("take", (2, ()), ())


class ProgramCase(unittest.TestCase):
    def assert_program(self, value, kinds=KINDS):
        with Unchanged(self, kinds, value):
            found = require_program(kinds, value)
        self.assertEqual(shape(found), shape(value))

    def assert_wrong(self, value, index, kinds=KINDS):
        with Unchanged(self, kinds, value):
            with self.assertRaises(InvalidProgram) as caught:
                require_program(kinds, value)
        self.assertEqual(shape(caught.exception.index), shape(index), value)

    def assert_deed(self, deed, kinds=KINDS):
        self.assert_program((deed,), kinds)

    def assert_no_deed(self, deed, kinds=KINDS):
        self.assert_wrong((deed,), 0, kinds)


class WholeProgramTest(ProgramCase):
    def test_programs(self):
        for value in ((), (PUT,), (TAKE,), (TURN,), (PLAIN,), (PUT, TAKE, TURN), (PLAIN, PLAIN)):
            self.assert_program(value)

    def test_number_of_deeds(self):
        for many in range(5):
            self.assert_program((PUT, TAKE, TURN, PLAIN)[:many])
            self.assert_program((TAKE,) * many)
        self.assert_wrong((PUT, TAKE, TURN, PLAIN, PLAIN), None)
        self.assert_wrong((None,) * 5, None)
        self.assert_wrong((None,) * 4, 0)
        self.assert_wrong((PLAIN,) * 10000, None)

    def test_no_tuple(self):
        for value in (*OTHER_VALUES, 0, 1, "put", [TAKE], list((PUT, TAKE)), {0: TAKE}, {}):
            self.assert_wrong(value, None)

    def test_a_deed_in_the_place_of_a_program(self):
        self.assert_wrong(PUT, 0)
        self.assert_wrong(TAKE, 0)
        self.assert_wrong(PLAIN, 0)

    def test_the_first_wrong_deed_is_told(self):
        for none in (None, True, "take", [], (), list(TAKE), ("take", (0, (-5, 1)), ()), ("takes", (2, ()), ())):
            self.assert_wrong((none, TAKE, none), 0)
            self.assert_wrong((PUT, none), 1)
            self.assert_wrong((PUT, TAKE, none, none), 2)
            self.assert_wrong((PUT, TAKE, TURN, none), 3)

    def test_booleans_and_lists_at_each_depth(self):
        value = (PUT, TAKE, TURN)
        self.assert_program(value)
        tried = 0
        for path, wrong in same_but_wrong(value):
            self.assert_wrong(wrong, path[0] if path else None)
            tried += 1
        self.assertGreater(tried, 40)

    def test_other_kinds_of_values_at_each_depth(self):
        value = (PUT, TAKE, TURN)
        for path, wrong in of_other_kinds(value):
            self.assert_wrong(wrong, path[0] if path else None)

    def test_nested_and_large_values(self):
        self.assert_wrong(deep(40), 0)
        self.assert_wrong((deep(39),), 0)
        for path in ((0, 1), (0, 2), (0, 3), (1, 1), (1, 2), (2, 1), (2, 2), (2, 3)):
            for other in (deep(37), (0,) * 100000, [TAKE] * 1000):
                self.assert_wrong(exchanged((PUT, TAKE, TURN), path, other), path[0])

    def test_deeds_may_stand_twice(self):
        self.assert_program((PUT, PUT, TAKE, TAKE))

    def test_arguments_by_name(self):
        self.assertEqual(require_program(value=(TAKE,), kinds=KINDS), (TAKE,))


class DeedFormTest(ProgramCase):
    def test_words(self):
        for word in ("PUT", "Put", "put ", "", "p", "turns", "took", "keep", None, 0, ("put",), ["put"], {"put": 1}):
            self.assert_no_deed((word, *PUT[1:]))
            self.assert_no_deed((word, *TAKE[1:]))
            self.assert_no_deed((word, *TURN[1:]))

    def test_the_word_of_another_deed(self):
        self.assert_no_deed(("take", *PUT[1:]))
        self.assert_no_deed(("put", *TAKE[1:]))
        self.assert_no_deed(("turn", *TAKE[1:]))
        self.assert_no_deed(("take", *TURN[1:]))
        self.assert_no_deed(("turn", *PUT[1:]))
        self.assert_no_deed(("put", *TURN[1:]))

    def test_lengths(self):
        for deed in (PUT, TAKE, TURN, PLAIN):
            self.assert_no_deed(deed[:-1])
            self.assert_no_deed((*deed, ()))
            self.assert_no_deed((*deed, 0))
            self.assert_no_deed((*deed, None, None))
        self.assert_no_deed(("put",))
        self.assert_no_deed(())

    def test_number_of_atoms(self):
        for many in range(3):
            self.assert_deed(("put", (1, (3,)), ((1, (-1,)),) * many, ()))
            self.assert_deed(("put", (1, (3,)), ((0, (-1, -2)), (2, ()))[:many], ()))
        for many in (3, 4, 7):
            self.assert_no_deed(("put", (1, (3,)), ((1, (-1,)),) * many, ()))
            self.assert_no_deed(("put", (1, (3,)), tuple((0, (-1, thing)) for thing in range(many)), ()))

    def test_number_of_pairs(self):
        pairs = ((-2, -1), (-1, 3), (4, 5))
        body = ((0, (-1, -2)),)
        for unlike in ((), pairs[:1], pairs[1:2], pairs[2:], pairs[:2], pairs[1:]):
            self.assert_deed(put((1, (-1,)), *body, unlike=unlike))
            self.assert_deed(("take", body[0], unlike))
            self.assert_deed(("turn", body[0], unlike, (3, 3)))
        for unlike in (pairs, (*pairs, (5, 6))):
            self.assert_no_deed(put((1, (-1,)), *body, unlike=unlike))
            self.assert_no_deed(("take", body[0], unlike))
            self.assert_no_deed(("turn", body[0], unlike, (3, 3)))

    def test_pairs(self):
        pairs = tuple(itertools.product((-2, -1, 0, 3), repeat=2))
        for many in (1, 2):
            for unlike in itertools.product(pairs, repeat=many):
                good = all(low < high for low, high in unlike) and sorted(set(unlike)) == list(unlike)
                check = self.assert_deed if good else self.assert_no_deed
                check(put((1, (-1,)), (0, (-1, -2)), unlike=unlike))
                check(("take", (0, (-1, -2)), unlike))
                check(("turn", (0, (-1, -2)), unlike, (3, 3)))

    def test_wrong_pairs(self):
        for unlike in ((-2, -1), ((-2,),), ((-2, -1, 3),), ((),), (((-2, -1),),), (-2,), ((-2, 10),), ((-9, -2),)):
            self.assert_no_deed(put((1, (-1,)), (0, (-1, -2)), unlike=unlike))
            self.assert_no_deed(("take", (0, (-1, -2)), unlike))
            self.assert_no_deed(("turn", (0, (-1, -2)), unlike, (3, 3)))

    def test_terms_that_stand_everywhere(self):
        for term in range(-4, 10):
            for kept in deeds_with(term):
                self.assert_deed(kept)

    def test_terms_that_stand_nowhere(self):
        for term in (-5, -6, -8, -9, 10, 11, 29, 10 ** 30, -10 ** 30):
            for wrong in deeds_with(term):
                self.assert_no_deed(wrong)

    def test_things_of_pairs(self):
        for thing in range(10):
            self.assert_deed(put((1, (-1,)), (1, (-1,)), unlike=((-1, thing),)))
            self.assert_deed(take((1, (-1,)), (-1, thing)))
        for thing in (10, 11, 29):
            self.assert_no_deed(put((1, (-1,)), (1, (-1,)), unlike=((-1, thing),)))
            self.assert_no_deed(take((1, (-1,)), (-1, thing)))
            self.assert_no_deed(take((1, (-1,)), (3, thing)))
            self.assert_no_deed(turn((1, (-1,)), (-1,), (-1, thing)))

    def test_kinds_of_atoms(self):
        for kind in (-1, -2, -3, 3, 4, 10 ** 30):
            for many in range(3):
                atom = (kind, (3, 4)[:many])
                self.assert_no_deed(put(atom))
                self.assert_no_deed(put((2, ()), atom))
                self.assert_no_deed(take(atom))
                self.assert_no_deed(turn(atom, (3, 4)[:many]))
        for kinds in ((0,), (1,), (2,), (0, 1, 2, 2)):
            last = len(kinds) - 1
            atom = (last, (3, 4)[:kinds[last]])
            for deed in (put(atom), put(atom, atom), take(atom), turn(atom, atom[1])):
                self.assert_deed(deed, kinds)
                self.assert_no_deed(deed, (*kinds[:-1], (kinds[last] + 1) % 3))

    def test_atoms_of_other_forms(self):
        for atom in ((), (0,), ((-1, 3),), (0, (-1, 3), ()), (0, -1, 3), 2, (0, (-1,)), (0, (-1, 3, 3)), (2, (3,))):
            self.assert_no_deed(put(atom))
            self.assert_no_deed(put((2, ()), (0, (-1, 3)), atom))
            self.assert_no_deed(take(atom))
            self.assert_no_deed(turn(atom, (3, 3)))


def deeds_with(term):
    """Deeds in which a term stands at each place where it may stand if it is a thing or a deed's variable."""
    return (
        put((1, (term,)), (1, (term,))), put((0, (3, term)), (2, ()), (0, (term, 3))), put((2, ()), (0, (3, term))),
        take((1, (term,))), take((0, (term, 3))), take((0, (3, term))),
        turn((1, (term,)), (term,)), turn((1, (term,)), (3,)), turn((0, (3, term)), (term, term)),
    )


class BoundTest(ProgramCase):
    def test_variables_of_a_put_stand_in_its_body(self):
        for variable in range(-4, 0):
            other = variable + 1 if variable < -1 else -4
            body = ((0, (3, variable)), (2, ()))
            self.assert_deed(put((1, (variable,)), *body, unlike=((variable, 3),)))
            self.assert_no_deed(put((1, (other,)), *body))
            self.assert_no_deed(put((0, (variable, other)), *body))
            self.assert_no_deed(put((2, ()), *body, unlike=((other, 3),)))
            self.assert_no_deed(put((2, ()), *body, unlike=(tuple(sorted((variable, other))),)))
            self.assert_deed(put((0, (variable, other)), *body[:1], (1, (other,))))
        self.assert_no_deed(put((1, (-1,))))
        self.assert_no_deed(put((1, (-1,)), (2, ())))
        # The atom that is put brings no variable in for the pairs.
        self.assert_no_deed(put((1, (-1,)), (1, (-2,)), unlike=((-2, -1),)))

    def test_variables_of_a_take_stand_in_its_atom(self):
        for variable in range(-4, 0):
            other = variable + 1 if variable < -1 else -4
            self.assert_deed(take((0, (3, variable)), (variable, 3)))
            self.assert_no_deed(take((0, (3, variable)), (other, 3)))
            self.assert_no_deed(take((0, (3, variable)), tuple(sorted((variable, other)))))
            self.assert_no_deed(take((0, (3, variable)), *sorted(((variable, 3), (other, 3)))))
        self.assert_no_deed(take((2, ()), (-1, 3)))
        self.assert_deed(take((2, ()), (3, 4)))

    def test_variables_of_a_turn_stand_in_its_atom(self):
        for variable in range(-4, 0):
            other = variable + 1 if variable < -1 else -4
            atom = (0, (3, variable))
            self.assert_deed(turn(atom, (variable, variable), (variable, 3)))
            self.assert_no_deed(turn(atom, (variable, other)))
            self.assert_no_deed(turn(atom, (other, 3)))
            self.assert_no_deed(turn(atom, (3, 3), (other, 3)))
            self.assert_no_deed(turn(atom, (other, 3), tuple(sorted((variable, other)))))
        self.assert_no_deed(turn((1, (3,)), (-1,)))

    def test_number_of_terms_of_a_turn(self):
        for kind, many in enumerate(KINDS):
            atom = (kind, (-1, -2)[:many])
            for length in range(4):
                deed = ("turn", atom, (), (3, 4, 5)[:length])
                if length == many:
                    self.assert_deed(deed)
                else:
                    self.assert_no_deed(deed)

    def test_terms_of_a_turn(self):
        for term in (*range(-8, -2), 10, 11, 29):
            self.assert_no_deed(turn((0, (-1, -2)), (term, 3)))
            self.assert_no_deed(turn((0, (-1, -2)), (3, term)))
        for term in (-1, -2, *range(10)):
            self.assert_deed(turn((0, (-1, -2)), (term, 3)))
            self.assert_deed(turn((0, (-1, -2)), (3, term)))
        for terms in (3, (3, (4,)), ("a", 3), (3, None), ((3, 4),)):
            self.assert_no_deed(turn((0, (-1, -2)), terms))


class MetTest(unittest.TestCase):
    def assert_met(self, atom, unlike, fact, expected):
        for deed in (("take", atom, unlike), ("turn", atom, unlike, atom[1])):
            with Unchanged(self, deed, fact):
                self.assertIs(is_met(deed, fact), expected, (deed, fact))

    def test_variables(self):
        self.assert_met((0, (-1, -2)), (), (0, (3, 4)), True)
        self.assert_met((0, (-1, -2)), (), (0, (4, 4)), True)
        self.assert_met((0, (-1, -1)), (), (0, (4, 4)), True)
        self.assert_met((0, (-1, -1)), (), (0, (3, 4)), False)
        self.assert_met((1, (-3,)), (), (1, (29,)), True)

    def test_things(self):
        self.assert_met((0, (3, -1)), (), (0, (3, 4)), True)
        self.assert_met((0, (3, -1)), (), (0, (4, 3)), False)
        self.assert_met((0, (-1, 3)), (), (0, (4, 3)), True)
        self.assert_met((0, (3, 4)), (), (0, (3, 4)), True)
        self.assert_met((0, (3, 4)), (), (0, (3, 3)), False)
        self.assert_met((0, (3, 3)), (), (0, (3, 3)), True)
        self.assert_met((0, (0, 0)), (), (0, (0, 0)), True)

    def test_kinds(self):
        self.assert_met((2, ()), (), (2, ()), True)
        self.assert_met((2, ()), (), (3, ()), False)
        self.assert_met((1, (-1,)), (), (0, (3,)), False)
        self.assert_met((0, (3, 4)), (), (1, (3, 4)), False)

    def test_pairs(self):
        self.assert_met((0, (-1, -2)), ((-2, -1),), (0, (3, 4)), True)
        self.assert_met((0, (-1, -2)), ((-2, -1),), (0, (4, 4)), False)
        self.assert_met((0, (-1, -2)), ((-2, 3),), (0, (3, 4)), True)
        self.assert_met((0, (-1, -2)), ((-2, 3),), (0, (4, 3)), False)
        self.assert_met((0, (-1, -2)), ((-2, 3), (-1, 4)), (0, (4, 2)), False)
        self.assert_met((0, (-1, -2)), ((-2, 3), (-1, 4)), (0, (2, 3)), False)
        self.assert_met((0, (-1, -2)), ((-2, 3), (-1, 4)), (0, (2, 2)), True)
        self.assert_met((1, (-1,)), ((3, 4),), (1, (3,)), True)
        self.assert_met((0, (-1, -1)), ((-1, 3),), (0, (3, 3)), False)
        self.assert_met((2, ()), ((3, 4),), (2, ()), True)

    def test_arguments_by_name(self):
        self.assertIs(is_met(fact=(2, ()), deed=PLAIN), True)
        self.assertIs(is_met(PLAIN, fact=(1, (3,))), False)


class DoneTest(unittest.TestCase):
    def assert_done(self, deed, store, expected):
        with Unchanged(self, deed, store):
            self.assertEqual(shape(done(deed, store)), shape(expected))
            self.assertEqual(shape(run((deed,), store)), shape(expected))

    def test_examples_of_the_interface(self):
        swap, drop = ("turn", (0, (-1, -2)), ((-2, 3),), (-2, -1)), ("take", (0, (-1, 3)), ())
        store = ((0, (1, 2)), (0, (2, 3)))
        told = (done(swap, store), run((swap, drop), store))
        self.assertEqual(shape(told), shape((((0, (2, 1)), (0, (2, 3))), ((0, (2, 1)),))))

    def test_put_with_several_values(self):
        store = ((1, (5,)), (1, (7,)))
        self.assert_done(put((0, (-1, -1)), (1, (-1,))), store, ((0, (5, 5)), (0, (7, 7)), *store))
        expected = tuple((0, row) for row in ((5, 5), (5, 7), (7, 5), (7, 7)))
        self.assert_done(put((0, (-1, -2)), (1, (-1,)), (1, (-2,))), store, (*expected, *store))
        unlike = ((-2, -1),)
        self.assert_done(put((0, (-1, -2)), (1, (-1,)), (1, (-2,)), unlike=unlike), store, (*expected[1:3], *store))
        self.assert_done(put((0, (-2, 3)), (1, (-2,)), unlike=((-2, 7),)), store, ((0, (5, 3)), *store))
        self.assert_done(put((2, ()), (1, (-1,))), store, (*store, (2, ())))

    def test_put_with_none(self):
        store = ((1, (5,)), (1, (7,)))
        self.assert_done(put((1, (3,)), (0, (-1, -2))), store, store)
        self.assert_done(put((1, (3,)), (1, (-1,)), (2, ())), store, store)
        self.assert_done(put((1, (3,)), (1, (-1,)), unlike=((-1, 5), (-1, 7))), store, store)
        self.assert_done(put((1, (3,)), (1, (4,))), (), ())

    def test_put_with_an_empty_body(self):
        self.assert_done(put((1, (3,))), (), ((1, (3,)),))
        self.assert_done(put((0, (4, 3))), ((0, (3, 4)),), ((0, (3, 4)), (0, (4, 3))))
        self.assert_done(put((2, ()), unlike=((3, 4),)), (), ((2, ()),))
        self.assert_done(put((2, ())), ((2, ()),), ((2, ()),))

    def test_put_adds_what_the_store_before_gives(self):
        # All at once: what is added in the deed gives nothing more.
        store = ((0, (1, 2)), (0, (2, 3)), (0, (3, 4)))
        step = put((0, (-1, -3)), (0, (-1, -2)), (0, (-2, -3)))
        self.assert_done(step, store, tuple(sorted((*store, (0, (1, 3)), (0, (2, 4))))))

    def test_put_adds_facts_once(self):
        store = ((0, (1, 2)), (0, (1, 3)))
        self.assert_done(put((1, (-1,)), (0, (-1, -2))), store, (*store, (1, (1,))))
        self.assert_done(put((0, (-1, 2)), (0, (-1, -2))), store, store)

    def test_take(self):
        store = ((0, (1, 1)), (0, (1, 3)), (0, (3, 1)), (0, (3, 3)), (1, (3,)), (2, ()))
        rows = (
            (take((0, (-1, -2))), (4, 5)), (take((0, (-1, -1))), (1, 2, 4, 5)), (take((0, (-1, 3))), (0, 2, 4, 5)),
            (take((0, (3, -1))), (0, 1, 4, 5)), (take((0, (3, 3))), (0, 1, 2, 4, 5)), (take((2, ())), (0, 1, 2, 3, 4)),
            (take((0, (-1, -2)), (-2, -1)), (0, 3, 4, 5)), (take((0, (-1, -2)), (-1, 3)), (2, 3, 4, 5)),
            (take((0, (-1, -1)), (-1, 3)), (1, 2, 3, 4, 5)), (take((0, (-1, -2)), (-2, 3), (-1, 3)), (1, 2, 3, 4, 5)),
            (take((1, (4,))), (0, 1, 2, 3, 4, 5)), (take((1, (-1,)), (3, 4)), (0, 1, 2, 3, 5)),
        )
        for deed, places in rows:
            self.assert_done(deed, store, tuple(store[place] for place in places))
        self.assert_done(take((0, (-1, -2))), (), ())

    def test_turn(self):
        store = ((0, (1, 2)), (0, (3, 3)), (1, (2,)), (2, ()))
        rest = store[2:]
        self.assert_done(turn((0, (-1, -2)), (-2, -1)), store, ((0, (2, 1)), (0, (3, 3)), *rest))
        self.assert_done(turn((0, (-1, -1)), (-1, 7)), store, ((0, (1, 2)), (0, (3, 7)), *rest))
        self.assert_done(turn((0, (-1, 2)), (-1, -1)), store, ((0, (1, 1)), (0, (3, 3)), *rest))
        self.assert_done(turn((0, (-1, -2)), (8, 9)), store, ((0, (8, 9)), *rest))
        self.assert_done(turn((0, (-1, -2)), (-2, -2), (-2, -1)), store, ((0, (2, 2)), (0, (3, 3)), *rest))
        self.assert_done(turn((0, (-1, -2)), (-1, 0), (-1, 1)), store, ((0, (1, 2)), (0, (3, 0)), *rest))
        self.assert_done(turn((1, (-1,)), (-1,)), store, store)
        self.assert_done(turn((2, ()), ()), store, store)
        self.assert_done(turn((2, ()), ()), (), ())
        self.assert_done(turn((0, (9, -1)), (-1, 9)), store, store)

    def test_a_turn_by_which_a_met_fact_stays(self):
        store = ((0, (1, 2)), (0, (2, 1)), (0, (3, 4)))
        self.assert_done(turn((0, (-1, -2)), (-2, -1)), store, ((0, (1, 2)), (0, (2, 1)), (0, (4, 3))))
        store = ((1, (1,)), (1, (2,)), (1, (5,)))
        self.assert_done(turn((1, (-1,)), (2,), (-1, 5)), store, ((1, (2,)), (1, (5,))))
        self.assert_done(turn((1, (-1,)), (5,)), store, ((1, (5,)),))
        # A fact that is not met stays, also where another one is turned into it.
        self.assert_done(turn((1, (1,)), (2,)), store, store[1:])

    def test_a_turn_is_done_at_once(self):
        # What a fact is turned into is not turned further.
        store = ((0, (1, 2)), (0, (2, 3)))
        self.assert_done(turn((0, (-1, -2)), (-2, 3)), store, ((0, (2, 3)), (0, (3, 3))))

    def test_greatest_things(self):
        store = ((0, (9, 29)), (0, (29, 29)))
        self.assert_done(turn((0, (-1, -2)), (-2, -1), (-2, -1)), store, ((0, (29, 9)), (0, (29, 29))))

    def test_a_full_store(self):
        store = tuple((kind, row) for kind in range(4) for row in itertools.product(range(30), repeat=2))
        self.assert_done(take((0, (-1, -2)), (-2, -1)), store, tuple(
            fact for fact in store if fact[0] or fact[1][0] == fact[1][1]))
        self.assert_done(turn((3, (-1, -2)), (-2, -1)), store, store)
        self.assert_done(put((0, (-1, -2)), (1, (-1, -2)), (2, (-2, -1))), store, store)

    def test_against_the_model(self):
        draws = Draws(11)
        for _ in range(3000):
            deed = draws.deed(KINDS, (-1, -2, -3, -4, 0, 1))
            require_program(KINDS, (deed,))
            self.assert_done_as_told(deed, draws.store(KINDS, (0, 1, 2), 12))

    def test_on_all_small_stores(self):
        draws = Draws(12)
        deeds = [draws.deed((2, 1), (-1, -2, -3, 1)) for _ in range(30)]
        for store in stores_over((2, 1), (1, 5)):
            for deed in deeds:
                self.assert_done_as_told(deed, store)

    def assert_done_as_told(self, deed, store):
        self.assert_done(deed, store, model_done(deed, store))
        if deed[0] != "put":
            gone = set(store) - set(model_done(("take", *deed[1:3]), store))
            for fact in store:
                self.assertIs(is_met(deed, fact), fact in gone, (deed, fact))

    def test_arguments_by_name(self):
        self.assertEqual(done(store=((1, (3,)),), deed=take((1, (-1,)))), ())
        self.assertEqual(run(store=((1, (3,)),), program=(take((1, (-1,))),)), ())


class RunTest(unittest.TestCase):
    def assert_run(self, program, store, expected):
        with Unchanged(self, program, store):
            self.assertEqual(shape(run(program, store)), shape(expected))

    def test_no_deeds(self):
        self.assert_run((), (), ())
        self.assert_run((), ((1, (3,)),), ((1, (3,)),))

    def test_each_deed_on_what_the_one_before_left(self):
        come, go = put((0, (-1, 4)), (1, (-1,))), turn((1, (-1,)), (7,))
        self.assert_run((come, go), ((1, (3,)),), ((0, (3, 4)), (1, (7,))))
        self.assert_run((go, come), ((1, (3,)),), ((0, (7, 4)), (1, (7,))))
        self.assert_run((go, come, go, take((1, (7,)))), ((1, (3,)),), ((0, (7, 4)),))

    def test_more_deeds_than_a_program_has(self):
        step = put((0, (-1, -3)), (0, (-1, -2)), (0, (-2, -3)))
        store = tuple((0, (thing, thing + 1)) for thing in range(20))
        expected = tuple((0, row) for row in itertools.combinations(range(21), 2))
        self.assert_run((step,) * 8, store, expected)

    def test_against_the_model(self):
        draws = Draws(13)
        for _ in range(600):
            program = draws.program(KINDS, (-1, -2, -3, 0, 1), 4)
            store = draws.store(KINDS, (0, 1, 2), 10)
            self.assert_run(program, store, model_run(program, store))

    def test_the_store_after_grows_with_the_one_before(self):
        draws = Draws(14)
        for _ in range(600):
            program = draws.program(KINDS, (-1, -2, -3, 0, 1), 4)
            store = draws.store(KINDS, (0, 1, 2), 9)
            less = tuple(fact for fact in store if draws.below(2))
            self.assertLessEqual(set(run(program, less)), set(run(program, store)))


if __name__ == "__main__":
    unittest.main()
