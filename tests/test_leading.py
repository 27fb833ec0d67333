"""Cases, normal forms and leading back: points 3, 9 and 10, and the interface of leading.py."""

import unittest

from builders import ban_of, part_of, put, take, turn
from models import Draws
from variations import Unchanged, shape

from backasked.answers import answers
from backasked.errors import LimitExceeded
from backasked.leading import cases, choices_at, led_back, normal
from backasked.questions import no_ban, question_of, require_question

KINDS = (2, 1, 0)
LOOPS = ("put", (0, (-1, -1)), ((1, (-1,)),), ())
DROP = ("take", (0, (-1, 3)), ())
SWAP = ("turn", (0, (-1, -2)), ((-2, 3),), (-2, -1))


class CasesTest(unittest.TestCase):
    def assert_cases(self, deed, atom, *expected):
        with Unchanged(self, deed, atom):
            self.assertEqual(shape(cases(deed, atom)), shape(expected))
            self.assertEqual(choices_at(deed, (0, (((), (atom,), ()),))), len(expected))

    def test_example_of_the_interface(self):
        told = cases(("put", (0, (-1, -1)), ((1, (-1,)),), ()), (0, (-1, -2)))
        self.assertEqual(shape(told), shape((((), ((0, (-1, -2)),), ()), (((-9, -1), (-9, -2)), ((1, (-9,)),), ()))))

    def test_an_atom_of_another_kind(self):
        deeds = (LOOPS, DROP, SWAP, take((0, (-1, -2))), take((0, (3, 3)), (4, 5)), put((0, (3, 4))))
        for deed in deeds:
            for atom in ((1, (-1,)), (1, (3,)), (2, ()), (3, (-1, -2))):
                self.assert_cases(deed, atom, ((), (atom,), ()))

    def test_put(self):
        deed = put((0, (-1, 4)), (0, (-1, -2)), (1, (-2,)), unlike=((-2, -1), (-1, 5)))
        body = ((0, (-9, -10)), (1, (-10,)))
        for asked in ((-1, -2), (-1, -1), (3, -8), (4, 4), (0, 9)):
            atom = (0, asked)
            equations = ((-9, asked[0]), (4, asked[1]))
            self.assert_cases(deed, atom, ((), (atom,), ()), (equations, body, ((-10, -9), (-9, 5))))

    def test_put_with_an_empty_body(self):
        self.assert_cases(put((1, (3,))), (1, (-4,)), ((), ((1, (-4,)),), ()), (((3, -4),), (), ()))
        self.assert_cases(put((1, (3,))), (1, (4,)), ((), ((1, (4,)),), ()), (((3, 4),), (), ()))

    def test_put_with_an_atom_twice(self):
        deed = put((1, (-1,)), (1, (-1,)), (1, (-1,)), unlike=((3, 4),))
        self.assert_cases(
            deed, (1, (-1,)), ((), ((1, (-1,)),), ()), (((-9, -1),), ((1, (-9,)), (1, (-9,))), ((3, 4),)))

    def test_the_variables_of_the_deed(self):
        deed = put((0, (-4, -3)), (0, (-1, -4)), (0, (-2, -3)), unlike=((-4, -3), (-2, 0)))
        self.assert_cases(
            deed, (0, (-8, -1)), ((), ((0, (-8, -1)),), ()),
            (((-12, -8), (-11, -1)), ((0, (-9, -12)), (0, (-10, -11))), ((-12, -11), (-10, 0))))

    def test_take_without_conditions(self):
        for atom in ((0, (-1, -2)), (0, (-1, -1)), (0, (3, 4))):
            self.assert_cases(take((0, (-1, -2))), atom)
            self.assert_cases(take((0, (-4, -3))), atom)
        self.assert_cases(take((1, (-1,))), (1, (3,)))
        self.assert_cases(take((2, ())), (2, ()))

    def test_things_of_a_take(self):
        for asked in ((-1, -2), (3, 4), (4, 3), (-5, 3), (9, -5)):
            atom = (0, asked)
            self.assert_cases(take((0, (3, -1))), atom, ((), (atom,), ((asked[0], 3),)))
            self.assert_cases(take((0, (-1, 3))), atom, ((), (atom,), ((asked[1], 3),)))
            self.assert_cases(
                take((0, (3, 4))), atom, ((), (atom,), ((asked[0], 3),)), ((), (atom,), ((asked[1], 4),)))
            self.assert_cases(
                take((0, (3, 3))), atom, ((), (atom,), ((asked[0], 3),)), ((), (atom,), ((asked[1], 3),)))

    def test_a_repeated_variable_of_a_take(self):
        for asked in ((-1, -2), (-2, -1), (-1, -1), (3, 4), (3, 3), (-5, 3)):
            atom = (0, asked)
            self.assert_cases(take((0, (-2, -2))), atom, ((), (atom,), ((asked[1], asked[0]),)))

    def test_pairs_of_a_take(self):
        for asked in ((-1, -2), (-2, -1), (-1, -1), (3, 4), (5, 5), (-6, 9)):
            atom = (0, asked)
            rows = (
                (take((0, (-1, -2)), (-2, -1)), (((asked[1], asked[0]),),)),
                (take((0, (-2, -1)), (-2, -1)), (((asked[0], asked[1]),),)),
                (take((0, (-1, -2)), (-2, 5), (-1, 7)), (((asked[1], 5),), ((asked[0], 7),))),
                (take((0, (-1, -2)), (-1, 5), (-1, 7)), (((asked[0], 5),), ((asked[0], 7),))),
                (take((0, (-1, -2)), (3, 4)), (((3, 4),),)),
            )
            for deed, unmet in rows:
                self.assert_cases(deed, atom, *[(equations, (atom,), ()) for equations in unmet])

    def test_conditions_of_a_take_in_their_order(self):
        for asked in ((-3, -2), (3, -2), (4, 4), (5, 3)):
            atom = (0, asked)
            self.assert_cases(
                take((0, (3, -1)), (-1, 4), (5, 6)), atom,
                ((), (atom,), ((asked[0], 3),)), (((asked[1], 4),), (atom,), ()), (((5, 6),), (atom,), ()))
            self.assert_cases(
                take((0, (-1, -1)), (-1, 4), (-1, 5)), atom, ((), (atom,), ((asked[1], asked[0]),)),
                (((asked[0], 4),), (atom,), ()), (((asked[0], 5),), (atom,), ()))
            self.assert_cases(
                take((0, (3, 4)), (5, 6), (5, 7)), atom,
                ((), (atom,), ((asked[0], 3),)), ((), (atom,), ((asked[1], 4),)),
                (((5, 6),), (atom,), ()), (((5, 7),), (atom,), ()))

    def test_kinds_without_things(self):
        atom = (2, ())
        itself = ((), (atom,), ())
        self.assert_cases(put(atom), atom, itself, ((), (), ()))
        self.assert_cases(put(atom, (1, (-1,)), unlike=((-1, 3),)), atom, itself, ((), ((1, (-9,)),), ((-9, 3),)))
        self.assert_cases(take(atom, (3, 4)), atom, (((3, 4),), (atom,), ()))
        self.assert_cases(turn(atom, ()), atom, itself)
        self.assert_cases(turn(atom, (), (3, 4)), atom, (((3, 4),), (atom,), ()), ((), (atom,), ((3, 4),)))

    def test_turn(self):
        atom = (0, (-1, -2))
        self.assert_cases(
            SWAP, atom, (((-2, 3),), (atom,), ()), (((-10, -1), (-9, -2)), ((0, (-9, -10)),), ((-10, 3),)))
        self.assert_cases(turn((1, (-1,)), (5,)), (1, (-1,)), (((5, -1),), ((1, (-9,)),), ()))
        self.assert_cases(turn((0, (-4, -4)), (-4, 7)), (0, (3, -5)),
                          ((), ((0, (3, -5)),), ((-5, 3),)), (((-12, 3), (7, -5)), ((0, (-12, -12)),), ()))
        self.assert_cases(turn((0, (4, -1)), (-1, -1), (-1, 5), (2, 6)), (0, (-8, 4)),
                          ((), ((0, (-8, 4)),), ((-8, 4),)), (((4, 5),), ((0, (-8, 4)),), ()),
                          (((2, 6),), ((0, (-8, 4)),), ()), (((-9, -8), (-9, 4)), ((0, (4, -9)),), ((-9, 5), (2, 6))))

    def test_a_turn_has_the_cases_of_a_take_first(self):
        draws = Draws(21)
        for _ in range(300):
            deed = draws.deed(KINDS, (-1, -2, -3, 0, 1, 2))
            if deed[0] == "turn":
                atom = (deed[1][0], tuple(draws.one_of((-1, -2, 0, 1)) for _ in deed[1][1]))
                found = cases(("take", *deed[1:3]), atom)
                self.assertEqual(cases(deed, atom)[:-1], found)

    def test_arguments_by_name(self):
        self.assertEqual(cases(atom=(1, (3,)), deed=LOOPS), (((), ((1, (3,)),), ()),))


class NormalTest(unittest.TestCase):
    def assert_normal(self, part, expected):
        with Unchanged(self, part):
            self.assertEqual(shape(normal(part)), shape(expected))
        self.assertEqual(shape(normal(expected)), shape(expected))

    def test_parts_in_normal_form(self):
        for part in (part_of(), part_of(head=(3,)), part_of((0, (-1, -2)), head=(-2, 3), unlike=((-2, -1), (-1, 5)))):
            self.assert_normal(part, part)

    def test_pairs_of_two_things(self):
        self.assert_normal(part_of(unlike=((3, 4),)), part_of())
        self.assert_normal(part_of((1, (-1,)), unlike=((-1, 3), (0, 9), (3, 4))), part_of((1, (-1,)), unlike=((-1, 3),)))
        self.assert_normal(part_of((1, (-1,)), unlike=((-1, 0), (0, 1))), part_of((1, (-1,)), unlike=((-1, 0),)))

    def test_atoms_twice(self):
        self.assert_normal(part_of((2, ()), (1, (-1,)), (2, ()), (1, (-1,)), (2, ())), part_of((2, ()), (1, (-1,))))
        self.assert_normal(
            part_of((0, (-1, -2)), (1, (3,)), (0, (-2, -1)), (0, (-1, -2)), (1, (3,))),
            part_of((0, (-1, -2)), (1, (3,)), (0, (-2, -1))))
        self.assert_normal(part_of((1, (-1,)), (1, (-2,))), part_of((1, (-1,)), (1, (-2,))))

    def test_atoms_keep_their_order(self):
        self.assert_normal(part_of((2, ()), (0, (5, 4)), (1, (3,)), (0, (2, 1))),
                           part_of((2, ()), (0, (5, 4)), (1, (3,)), (0, (2, 1))))

    def test_variables_named_anew(self):
        self.assert_normal(part_of((0, (-2, -1)), head=(-1, -2)), part_of((0, (-1, -2)), head=(-2, -1)))
        self.assert_normal(part_of((0, (-8, -8)), (1, (-8,)), head=(-8,)), part_of((0, (-1, -1)), (1, (-1,)), head=(-1,)))
        self.assert_normal(
            part_of((1, (3,)), (0, (-5, 0)), (0, (-1, -7)), head=(-7, 4), unlike=((-7, -5), (-7, 2))),
            part_of((1, (3,)), (0, (-1, 0)), (0, (-2, -3)), head=(-3, 4), unlike=((-3, -1), (-3, 2))))

    def test_pairs_put_in_order(self):
        body = ((0, (-2, -1)),)
        self.assert_normal(part_of(*body, unlike=((-2, -1),)), part_of((0, (-1, -2)), unlike=((-2, -1),)))
        self.assert_normal(
            part_of(*body, unlike=((-2, -1), (-2, 3), (-1, 3))),
            part_of((0, (-1, -2)), unlike=((-2, -1), (-2, 3), (-1, 3))))
        self.assert_normal(
            part_of(*body, unlike=((-2, 3), (-1, 5))), part_of((0, (-1, -2)), unlike=((-2, 5), (-1, 3))))
        self.assert_normal(
            part_of((1, (-8,)), (0, (-3, -5)), unlike=((-8, -5), (-8, -3), (-5, -3), (-5, 1), (-3, 2))),
            part_of((1, (-1,)), (0, (-2, -3)), unlike=((-3, -2), (-3, -1), (-3, 1), (-2, -1), (-2, 2))))

    def test_eight_variables(self):
        body = tuple((0, (-8 + 2 * k, -7 + 2 * k)) for k in range(4))
        expected = tuple((0, (-1 - 2 * k, -2 - 2 * k)) for k in range(4))
        self.assert_normal(part_of(*body, head=(-1,)), part_of(*expected, head=(-8,)))

    def test_drawn_parts(self):
        draws = Draws(22)
        for _ in range(300):
            part = draws.part(KINDS, 2, (-1, -2, -3, -4, 0, 1, 2), 5)
            found = normal(part)
            self.assert_normal(part, found)
            require_question(KINDS, (2, (found,)))
            store = draws.store(KINDS, (0, 1, 2, 5), 14)
            self.assertEqual(answers((2, (found,)), store), answers((2, (part,)), store))

    def test_arguments_by_name(self):
        self.assertEqual(normal(part=part_of((1, (-3,)))), part_of((1, (-1,))))


class LedBackCase(unittest.TestCase):
    def assert_led_back(self, program, question, expected, **more):
        with Unchanged(self, program, question):
            found = led_back(program, question, **more)
        self.assertEqual(shape(found), shape((question[0], expected)))

    def assert_limit(self, program, question, limit=300, **more):
        with Unchanged(self, program, question):
            with self.assertRaises(LimitExceeded) as caught:
                led_back(program, question, **more)
        self.assertEqual(shape(caught.exception.limit), shape(limit))


class LedBackTest(LedBackCase):
    def test_examples_of_the_interface(self):
        loops, pairs = ("put", (0, (-1, -1)), ((1, (-1,)),), ()), question_of((2, 1), 0)
        told = (choices_at(loops, pairs), led_back((loops,), pairs)[1])
        expected = (2, (((-1, -2), ((0, (-1, -2)),), ()), ((-1, -1), ((1, (-1,)),), ())))
        self.assertEqual(shape(told), shape(expected))

    def test_no_deeds(self):
        rough = (1, (part_of((0, (-2, -1)), (0, (-2, -1)), head=(-1,), unlike=((-2, -1), (3, 4))),
                     part_of((1, (-5,)), head=(-5,)), part_of((1, (-1,)), head=(-1,)), part_of(head=(7,))))
        rough = (1, tuple(sorted(rough[1])))
        fine = (part_of((0, (-1, -2)), head=(-2,), unlike=((-2, -1),)), part_of((1, (-1,)), head=(-1,)), part_of(head=(7,)))
        self.assert_led_back((), rough, fine)
        self.assert_led_back((), rough, fine, tries=1)
        self.assert_led_back((), no_ban(), ())
        self.assert_led_back((), (2, ()), ())

    def test_no_parts(self):
        for program in ((LOOPS,), (DROP, SWAP), (SWAP,) * 4):
            self.assert_led_back(program, (1, ()), (), tries=1)

    def test_an_empty_body(self):
        question = (1, (part_of(head=(3,)), part_of(head=(4,), unlike=((5, 6),))))
        self.assert_led_back((LOOPS, DROP, SWAP), question, (part_of(head=(3,)), part_of(head=(4,))), tries=2)

    def test_two_things_made_the_same(self):
        deed = put((0, (3, -1)), (1, (-1,)))
        self.assert_led_back((deed,), ban_of((0, (4, -1))), (part_of((0, (4, -1))),))
        self.assert_led_back((deed,), ban_of((0, (3, -1))), (part_of((0, (3, -1))), part_of((1, (-1,)))))
        self.assert_led_back((deed,), ban_of((0, (-1, 4))), (part_of((0, (-1, 4))), part_of((1, (4,)))))
        self.assert_led_back((LOOPS,), ban_of((0, (3, 4))), (part_of((0, (3, 4))),))
        self.assert_led_back((LOOPS,), ban_of((0, (3, 3))), (part_of((0, (3, 3))), part_of((1, (3,)))))
        # Two cases may each be good, but not both of them together.
        deed = put((0, (-1, 3)), (1, (-1,)))
        self.assert_led_back((deed,), ban_of((0, (4, -1)), (0, (-1, -1))), (
            part_of((0, (4, -1)), (0, (-1, -1))), part_of((0, (4, 3)), (1, (3,))),
            part_of((1, (4,)), (0, (3, 3))), part_of((1, (4,)), (1, (3,)))))
        deed = turn((1, (-1,)), (3,))
        self.assert_led_back((deed,), ban_of((1, (-1,)), (0, (-1, 4))), (part_of((1, (-1,)), (0, (3, 4))),))
        self.assert_led_back((deed,), ban_of((1, (4,)), (0, (-1, 4))), ())

    def test_things_stay(self):
        # Also where the thing comes in by an equation after the variables have been made the same.
        deed = put((0, (-1, -1)), (0, (-1, -2)))
        question = (2, (part_of((0, (-1, -2)), (0, (-2, 5)), head=(-1, -2)),))
        self.assert_led_back((deed,), question, (
            part_of((0, (-1, -2)), (0, (-2, 5)), head=(-1, -2)), part_of((0, (-1, -2)), (0, (-1, 5)), head=(-1, -1)),
            part_of((0, (-1, 5)), (0, (5, -2)), head=(-1, 5)), part_of((0, (5, -1)), (0, (5, -2)), head=(5, 5))))

    def test_pairs_whose_terms_are_made_the_same(self):
        self.assert_led_back(
            (LOOPS,), ban_of((0, (-1, -2)), unlike=((-2, -1),)), (part_of((0, (-1, -2)), unlike=((-2, -1),)),))
        self.assert_led_back(
            (LOOPS,), ban_of((0, (-1, 3)), unlike=((-1, 3),)), (part_of((0, (-1, 3)), unlike=((-1, 3),)),))
        self.assert_led_back((take((1, (3,))),), ban_of((1, (3,))), ())
        self.assert_led_back((take((1, (3,))),), ban_of((1, (4,))), (part_of((1, (4,))),))
        self.assert_led_back((take((1, (3,))),), ban_of((1, (-2,))), (part_of((1, (-1,)), unlike=((-1, 3),)),))
        self.assert_led_back((take((0, (-1, -1))),), ban_of((0, (-1, -1))), ())
        self.assert_led_back((take((0, (-1, -1))),), ban_of((0, (-2, -1))), (part_of((0, (-1, -2)), unlike=((-2, -1),)),))
        deed = put((1, (-1,)), (1, (-2,)), (1, (-1,)), unlike=((-2, -1), (-1, 3)))
        self.assert_led_back((deed,), ban_of((1, (3,))), (part_of((1, (3,))),))
        self.assert_led_back((deed,), ban_of((1, (4,))), (
            part_of((1, (-1,)), (1, (4,)), unlike=((-1, 4),)), part_of((1, (4,)),)))

    def test_equations_of_a_take(self):
        deed = take((0, (-1, -2)), (-2, -1))
        self.assert_led_back((deed,), (2, (part_of((0, (-1, -2)), head=(-2, -1)),)), (part_of((0, (-1, -1)), head=(-1, -1)),))
        self.assert_led_back((deed,), ban_of((0, (-1, 3))), (part_of((0, (3, 3))),))
        self.assert_led_back((deed,), ban_of((0, (4, 3))), ())
        self.assert_led_back((take((1, (-1,)), (4, 5)),), ban_of((1, (-1,))), ())

    def test_the_atoms_in_their_order(self):
        deed = put((1, (5,)), (2, ()))
        self.assert_led_back((deed,), ban_of((1, (-1,)), (1, (-1,))), (
            part_of((1, (-1,))), part_of((1, (5,)), (2, ())), part_of((2, ())), part_of((2, ()), (1, (5,)))))

    def test_the_variables_of_each_case_are_new_ones(self):
        deed = put((1, (-1,)), (0, (-1, -2)))
        self.assert_led_back((deed,), ban_of((1, (-1,)), (1, (-2,))), (
            part_of((0, (-1, -2)), (0, (-3, -4))), part_of((0, (-1, -2)), (1, (-3,))),
            part_of((1, (-1,)), (0, (-2, -3))), part_of((1, (-1,)), (1, (-2,)))))

    def test_parts_that_come_about_twice(self):
        self.assert_led_back((take((0, (3, 3))),), ban_of((0, (-1, -1))), (part_of((0, (-1, -1)), unlike=((-1, 3),)),))
        question = (0, (part_of((0, (-1, -2)), unlike=((-2, -1),)), part_of((0, (-1, -2)), (0, (-1, -2)), unlike=((-2, -1),))))
        self.assertEqual(choices_at(LOOPS, question), 6)
        self.assert_led_back((LOOPS,), question, (part_of((0, (-1, -2)), unlike=((-2, -1),)),))
        self.assert_led_back((put((2, ())),), (0, (part_of((2, ())), part_of((2, ()), (2, ())))), (part_of(), part_of((2, ()))))

    def test_the_last_deed_first(self):
        come, go = put((1, (-1,)), (0, (-1, -2))), take((1, (-1,)))
        ban = ban_of((1, (-1,)))
        self.assert_led_back((come, go), ban, ())
        self.assert_led_back((go, come), ban, (part_of((0, (-1, -2))),))
        self.assert_led_back((come,), ban, (part_of((0, (-1, -2))), part_of((1, (-1,)))))

    def test_turns(self):
        self.assert_led_back((SWAP,), question_of(KINDS, 0), (
            part_of((0, (-1, -2)), head=(-2, -1), unlike=((-2, 3),)), part_of((0, (-1, 3)), head=(-1, 3))))
        self.assert_led_back((turn((1, (-1,)), (5,)),), question_of(KINDS, 1), (part_of((1, (-1,)), head=(5,)),))
        self.assert_led_back((turn((2, ()), ()),), ban_of((2, ())), (part_of((2, ())),))
        deed = turn((2, ()), (), (3, 4))
        self.assert_led_back((deed,), ban_of((2, ())), (part_of((2, ())),))

    def test_arguments(self):
        self.assertEqual(led_back(question=no_ban(), program=(LOOPS,), tries=5), no_ban())
        self.assertEqual(choices_at(question=no_ban(), deed=LOOPS), 0)
        with self.assertRaises(TypeError):
            led_back((LOOPS,), no_ban(), 300)


class ChoicesTest(LedBackCase):
    def assert_choices(self, deed, question, expected):
        with Unchanged(self, deed, question):
            self.assertEqual(shape(choices_at(deed, question)), shape(expected))

    def test_counts(self):
        two, one, none = (0, (-1, -2)), (1, (-1,)), (2, ())
        rows = (
            (LOOPS, ban_of(), 1), (LOOPS, ban_of(two), 2), (LOOPS, ban_of(two, two), 4), (LOOPS, ban_of(two, one, none), 2),
            (LOOPS, ban_of(*[two] * 6), 64), (LOOPS, ban_of(one, none), 1), (LOOPS, no_ban(), 0), (LOOPS, (2, ()), 0),
            (take(two), ban_of(two), 0), (take(two), ban_of(one, two, one), 0), (take(two), ban_of(one, one), 1),
            (take((0, (3, 3))), ban_of(two, two), 4), (take((0, (3, -1)), (-1, 4), (5, 6)), ban_of(two), 3),
            (take((0, (-1, -1)), (-1, 4), (5, 6)), ban_of(two, two, one), 9), (take(none, (3, 4)), ban_of(none, none), 1),
            (SWAP, ban_of(two), 2), (turn((0, (3, 4)), (3, 4), (5, 6), (5, 7)), ban_of(*[two] * 6), 15625),
            (turn(two, (3, 4)), ban_of(*[two] * 6), 1),
        )
        for deed, question, expected in rows:
            self.assert_choices(deed, question, expected)

    def test_all_parts_are_counted(self):
        question = (1, (part_of((0, (-1, -2)), head=(-1,)), part_of((0, (-1, -2)), (0, (3, 4)), head=(-1,)), part_of(head=(3,))))
        self.assert_choices(LOOPS, question, 7)
        self.assert_choices(SWAP, question, 7)
        self.assert_choices(take((0, (-1, -2))), question, 1)

    def test_choices_count_whether_parts_come_about_or_not(self):
        # The second condition is never met, the pair always, and 3 and 4 are never the same.
        deed = take((0, (3, -1)), (-1, 4))
        question = ban_of((0, (3, 5)), (0, (3, 5)))
        self.assert_choices(deed, question, 4)
        self.assert_led_back((deed,), question, (), tries=4)
        self.assert_limit((deed,), question, 3, tries=3)
        deed = put((1, (3,)))
        self.assert_led_back((deed,), ban_of((1, (4,)), (1, (5,))), (part_of((1, (4,)), (1, (5,))),), tries=4)
        self.assert_limit((deed,), ban_of((1, (4,)), (1, (5,))), 3, tries=3)

    def test_the_part_is_led_back_as_it_is_given(self):
        # Two atoms that are the same are two for the choices, though the normal form has one of them.
        question = ban_of((1, (3,)), (1, (3,)))
        self.assert_choices(put((1, (3,))), question, 4)
        self.assert_led_back((put((1, (3,))),), question, (part_of(), part_of((1, (3,)))), tries=4)
        self.assert_limit((put((1, (3,))),), question, 3, tries=3)
        # At the step before it they are one.
        self.assert_led_back((put((1, (3,))), LOOPS), question, (part_of(), part_of((1, (3,)))), tries=2)
        self.assert_limit((put((1, (3,))), LOOPS), question, 1, tries=1)

    def test_limits_that_are_just_met(self):
        draws = Draws(23)
        tried = 0
        for _ in range(300):
            deed = draws.deed(KINDS, (-1, -2, 0, 1))
            question = draws.question(KINDS, 1, (-1, -2, 0, 1), 3)
            many = choices_at(deed, question)
            if many > 1:
                found = led_back((deed,), question, tries=many)
                self.assertEqual(found, led_back((deed,), question))
                self.assert_limit((deed,), question, many - 1, tries=many - 1)
                tried += 1
        self.assertGreater(tried, 50)

    def test_three_hundred_and_a_thousand(self):
        deed = put((1, (3,)))
        # Of a part with so many atoms one part comes about for each number of atoms that are left.
        for many in (1, 64, 299, 300, 301, 1000, 1001):
            question = of_choices(many)
            self.assert_choices(deed, question, many)
            require_question(KINDS, question)
            expected = sum(len(body) + 1 for _, body, _ in question[1])
            found = led_back((deed,), question, tries=max(many, 300))
            self.assertEqual(len(found[1]), expected)
            if many > 300:
                self.assert_limit((deed,), question)
            else:
                self.assertEqual(led_back((deed,), question), found)
            if many > 1:
                self.assert_limit((deed,), question, many - 1, tries=many - 1)

    def test_each_deed_has_its_own_count(self):
        # 2 choices at the last deed, 4 at the first one: their sum is not looked at.
        program = (put((1, (3,))), put((2, ())))
        question = ban_of((1, (-1,)), (2, ()))
        expected = (part_of(), part_of((1, (-1,))), part_of((1, (-1,)), (2, ())), part_of((2, ())))
        self.assert_led_back(program, question, expected, tries=4)
        self.assert_limit(program, question, 3, tries=3)
        # Of 4 choices 3 parts come about, with 7 choices at the deed before.
        program, question = (put((1, (3,))),) * 2, ban_of((1, (-1,)), (1, (-2,)))
        expected = (part_of(), part_of((1, (-1,))), part_of((1, (-1,)), (1, (-2,))))
        self.assert_led_back(program, question, expected, tries=7)
        self.assert_limit(program, question, 6, tries=6)

    def test_more_choices_than_can_be_looked_at(self):
        deed = turn((0, (3, 4)), (3, 4), (5, 6), (5, 7))
        body = ((0, (-1, -2)),) * 6
        question = (2, tuple(sorted(((one, other), body, ()) for one in range(10) for other in range(10))))
        self.assert_choices(deed, question, 1562500)
        self.assert_limit((deed,), question)


class SizeTest(LedBackCase):
    """Parts that come about with more than 6 atoms or more than 8 variables in normal form."""

    UNARY = put((0, (-1, -2)), (1, (-1,)), (1, (-2,)))
    WIDE = put((1, (-1,)), (0, (-1, -2)), (0, (-3, -4)))

    def test_atoms(self):
        three = ban_of((0, (-1, -2)), (0, (-2, -3)), (0, (-3, -4)))
        four = ban_of((0, (-1, -2)), (0, (-2, -3)), (0, (-3, -4)), (0, (-4, -5)))
        # The atoms of a chain have variables in common: by all cases of the deed there are 4 and 5 unary ones.
        self.assertEqual(len(led_back((self.UNARY,), three)[1]), 8)
        self.assertEqual(len(led_back((self.UNARY,), four)[1]), 16)
        apart = ban_of((0, (-1, -2)), (0, (-3, -4)), (0, (-5, -6)))
        self.assertIn(part_of(*[(1, (-1 - place,)) for place in range(6)]), led_back((self.UNARY,), apart)[1])
        self.assert_limit((self.UNARY,), ban_of((0, (-1, -2)), (0, (-3, -4)), (0, (-5, -6)), (0, (-7, -8))))
        # One more atom of another kind: seven.
        self.assert_limit((self.UNARY,), ban_of((2, ()), *apart[1][0][1]), 8, tries=8)
        self.assert_limit((self.UNARY,), ban_of(*apart[1][0][1], (1, (-7,))), 1000, tries=1000)
        self.assertEqual(len(led_back((self.UNARY,), ban_of(*apart[1][0][1], (1, (-6,))))[1]), 8)

    def test_variables(self):
        many_at = led_back((self.WIDE,), ban_of((1, (-1,)), (1, (-2,))))[1]
        self.assertEqual(max(len({term for _, terms in body for term in terms}) for _, body, _ in many_at), 8)
        self.assertEqual(len(led_back((self.WIDE,), ban_of((1, (-1,)), (1, (-2,)), (0, (-1, -2))))[1]), 4)
        self.assertEqual(len(led_back((self.WIDE,), ban_of((1, (-1,)), (1, (-2,)), (0, (3, 4))))[1]), 4)
        self.assert_limit((self.WIDE,), ban_of((1, (-1,)), (1, (-2,)), (0, (-1, -3))))
        self.assert_limit((self.WIDE,), ban_of((1, (-1,)), (1, (-2,)), (0, (-3, -3))), 4, tries=4)
        self.assert_limit((self.WIDE,), ban_of((1, (-1,)), (1, (-2,)), (1, (-3,))))

    def test_only_parts_that_come_about(self):
        # By the choice with more than eight variables two things, or two terms of a pair, would be the same.
        deed = put((0, (3, -1)), (0, (-1, -2)), (0, (-3, -4)))
        body = ((0, (3, -1)), (0, (3, -2)))
        self.assertEqual(len(led_back((deed,), ban_of(*body, (0, (4, 5))))[1]), 4)
        self.assert_limit((deed,), ban_of(*body, (0, (3, 5))))
        deed = put((0, (-1, 5)), (0, (-1, -2)), (0, (-3, -4)))
        body = ((0, (-1, 5)), (0, (-2, 5)), (0, (-2, -1)))
        self.assertEqual(len(led_back((deed,), ban_of(*body, unlike=((-1, 5),)))[1]), 4)
        self.assert_limit((deed,), ban_of(*body))

    def test_at_a_step_in_the_middle(self):
        # No part of these would be left before the first deed: no unary fact stands after it.
        none = take((1, (-1,)))
        ban = ban_of((0, (-1, -2)), (0, (-3, -4)), (0, (-5, -6)))
        self.assert_led_back((none, self.UNARY), ban, (part_of(*ban[1][0][1]),))
        self.assert_limit((none, self.UNARY), ban_of(*ban[1][0][1], (0, (-7, -8))))
        self.assert_limit((none, self.UNARY, DROP), ban_of((2, ()), *ban[1][0][1]))
        # Nor of these: no binary one does.
        nothing = take((0, (-1, -2)))
        ban = ban_of((1, (-1,)), (1, (-2,)))
        self.assert_led_back((nothing, self.WIDE), ban, (part_of((1, (-1,)), (1, (-2,))),))
        self.assert_limit((nothing, self.WIDE), ban_of((1, (-1,)), (1, (-2,)), (1, (-3,))))
        # One that would be small again before the first deed.
        small = put((1, (-1,)), (2, ()), (0, (-1, -1)))
        self.assert_limit((small, none, self.UNARY), ban_of(*[(0, (-1 - 2 * k, -2 - 2 * k)) for k in range(4)]))

    def test_more_atoms_before_normal_form(self):
        deed = put((0, (-1, -1)), (1, (-1,)), (2, ()))
        question = ban_of(*[(0, (-1, -1))] * 6)
        self.assert_led_back((deed,), question, (
            part_of((0, (-1, -1))), part_of((0, (-1, -1)), (1, (-1,)), (2, ())),
            part_of((1, (-1,)), (2, ())), part_of((1, (-1,)), (2, ()), (0, (-1, -1)))))
        # Six atoms of different places, of which one and the same body comes.
        deed = put((1, (-1,)), (2, ()), (2, ()))
        question = ban_of(*[(1, (thing,)) for thing in range(6)])
        self.assertIn(part_of((2, ())), led_back((put((1, (0,)), (2, ()), (2, ())),), ban_of(*[(1, (-1,))] * 6))[1])
        every = turn((1, (-1,)), (7,))
        self.assertEqual(led_back((every,), question), (0, ()))

    def test_more_variables_before_normal_form(self):
        # 8 variables of the part and 16 of the cases, but each of these is like one of those.
        deed = put((0, (-1, -2)), (0, (-2, -1)))
        found = led_back((deed,), ban_of(*[(0, (-1 - 2 * k, -2 - 2 * k)) for k in range(4)]))
        self.assertEqual(found, ban_of(*[(0, (-1 - 2 * k, -2 - 2 * k)) for k in range(4)]))
        deed = put((0, (-1, -2)), (0, (-2, -1)), (2, ()))
        found = led_back((deed,), ban_of(*[(0, (-1 - 2 * k, -2 - 2 * k)) for k in range(4)]))
        self.assertEqual(len(found[1]), 5)


def of_choices(many):
    """A question with so many choices at a put of a fact of kind 1."""
    parts = []
    for size in (6, 5, 4, 3, 2, 1, 0):
        body = tuple((1, (-1 - place,)) for place in range(size))
        while many >= 2 ** size:
            number = len(parts)
            # A head of its own keeps each part apart from the others.
            parts.append(((number // 10, number % 10), body, ()))
            many -= 2 ** size
    return (2, tuple(sorted(parts)))


if __name__ == "__main__":
    unittest.main()
