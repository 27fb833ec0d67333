"""Wishes, options, choices and mends: points 2 and 15, and the interface of mends.py."""

import inspect
import itertools
import unittest

from builders import DROP, KINDS, LOOPS, NO_LOOPS, SWAP, ban_of, part_of, put, take, turn, unary
from literal import literal_changed, literal_choices, literal_mend, literal_wish, outcome
from models import Draws
from variations import OTHER_VALUES, Unchanged, deep, of_other_kinds, same_but_wrong, shape

from backasked.errors import InvalidOptions, InvalidWishes, LimitExceeded
from backasked.mends import cheapest_mend, choices, keeps_wish, require_options, require_wishes, with_choice
from backasked.questions import no_ban
from backasked.stores import require_store

STORE = ((0, (3, 4)), (1, (5,)))
KEEPS = ("keeps", NO_LOOPS)
SAME = ("same", (LOOPS, DROP))
LEADS = ("leads", STORE, (1, (5,)))
SPARES = ("spares", STORE, (2, ()))
WISHES = (KEEPS, SAME, LEADS, SPARES)
SIXTY = tuple((0, (a, b)) for a in range(2) for b in range(30))


def drop(index, cost):
    return ("drop", index, cost)


def option(index, deed, cost):
    return ("put", index, deed, cost)


class RequireCase(unittest.TestCase):
    def assert_right(self, call, *arguments):
        with Unchanged(self, *arguments):
            self.assertIs(call(*arguments), arguments[-1])

    def assert_wrong(self, call, error, index, *arguments):
        with Unchanged(self, *arguments), self.assertRaises(error) as caught:
            call(*arguments)
        self.assertEqual(shape(caught.exception.index), shape(index), arguments)


class WishesTest(RequireCase):
    def assert_wishes(self, value, kinds=KINDS):
        self.assert_right(require_wishes, kinds, value)

    def assert_no_wishes(self, index, value, kinds=KINDS):
        self.assert_wrong(require_wishes, InvalidWishes, index, kinds, value)

    def test_each_word(self):
        for wish in WISHES:
            self.assert_wishes((wish,))
        self.assert_wishes((("keeps", no_ban()),))
        self.assert_wishes((("same", ()),))
        self.assert_wishes((("leads", (), (2, ())),))
        self.assert_wishes((("spares", (), (0, (29, 0))),))

    def test_how_many(self):
        self.assert_wishes((KEEPS, LEADS))
        self.assert_wishes((KEEPS, KEEPS, KEEPS))
        self.assert_no_wishes(None, ())
        self.assert_no_wishes(None, (KEEPS,) * 4)
        self.assert_no_wishes(None, WISHES)
        self.assert_no_wishes(None, (None,) * 4)

    def test_no_tuple(self):
        for value in (*OTHER_VALUES, 0, 5, [KEEPS], {0: KEEPS}, "keeps"):
            self.assert_no_wishes(None, value)

    def test_the_first_wrong_one(self):
        for index in range(3):
            for wrong in (*OTHER_VALUES, (), ("keeps",), 7, deep(39)):
                wishes = [KEEPS, LEADS, SAME]
                wishes[index] = wrong
                self.assert_no_wishes(index, tuple(wishes))
                self.assert_no_wishes(index, tuple(wishes[:index + 1]))
                self.assert_no_wishes(index, (*wishes[:index], wrong, *[None] * (2 - index)))

    def test_words(self):
        for wish in WISHES:
            for word in ("keep", "Keeps", "", "drop", "put", "keeps ", 0, True, None, ["keeps"], ("keeps",)):
                self.assert_no_wishes(0, ((word, *wish[1:]),))
            self.assert_no_wishes(0, (wish[:-1],))
            self.assert_no_wishes(0, ((*wish, wish[-1]),))
            self.assert_no_wishes(0, ((*wish, 0),))
            self.assert_no_wishes(0, (wish[::-1],))
        self.assert_no_wishes(0, (("same", NO_LOOPS),))
        self.assert_no_wishes(0, (("keeps", (LOOPS,)),))
        self.assert_no_wishes(0, (("keeps", STORE, (1, (5,))),))
        self.assert_no_wishes(0, (("leads", NO_LOOPS),))

    def test_bans(self):
        self.assert_no_wishes(0, (("keeps", (1, ())),))
        self.assert_no_wishes(0, (("keeps", (2, (part_of((0, (-1, -2)), head=(-1, -2)),))),))
        self.assert_no_wishes(0, (("keeps", (False, ())),))
        self.assert_no_wishes(0, (("keeps", ban_of((3, (-1,)))),))
        self.assert_no_wishes(0, (KEEPS,), kinds=(1, 1))
        self.assert_wishes((("keeps", ban_of((3, (-1,)))),), kinds=(0, 0, 0, 1))

    def test_programs(self):
        self.assert_wishes((("same", (LOOPS,) * 4),))
        self.assert_no_wishes(0, (("same", (LOOPS,) * 5),))
        self.assert_no_wishes(0, (("same", LOOPS),))
        self.assert_no_wishes(0, (("same", [LOOPS]),))
        self.assert_no_wishes(0, (SAME,), kinds=(2, 2))

    def test_stores(self):
        require_store(KINDS, SIXTY)
        for word in ("leads", "spares"):
            self.assert_wishes(((word, SIXTY, (2, ())),))
            self.assert_no_wishes(0, ((word, (*SIXTY, (1, (0,))), (2, ())),))
            self.assert_no_wishes(0, ((word, STORE[::-1], (2, ())),))
            self.assert_no_wishes(0, ((word, STORE + STORE[1:], (2, ())),))
            self.assert_no_wishes(0, ((word, list(STORE), (2, ())),))
            self.assert_no_wishes(0, ((word, ((0, (3, 30)),), (2, ())),))
            self.assert_no_wishes(0, ((word, STORE, (2, ())),), kinds=(1, 1, 0))

    def test_facts(self):
        for word in ("leads", "spares"):
            # A fact that the store has, and one that it has not.
            self.assert_wishes(((word, STORE, (0, (3, 4))),))
            self.assert_wishes(((word, STORE, (0, (4, 3))),))
            for wrong in ((0, (3,)), (3, ()), (-1, ()), (0, (3, 30)), (0, (-1, 3)), (1, 5), (2,), STORE, (False, (3, 4))):
                self.assert_no_wishes(0, ((word, STORE, wrong),))

    def test_parts_of_other_kinds_at_each_depth(self):
        for wish in WISHES:
            for path, changed in [*same_but_wrong((wish,)), *of_other_kinds((wish,))]:
                self.assert_no_wishes(None if not path else 0, changed)

    def test_arguments_by_name(self):
        self.assertEqual(require_wishes(value=(KEEPS,), kinds=KINDS), (KEEPS,))


class OptionsTest(RequireCase):
    PROGRAM = (LOOPS, DROP)

    def assert_options(self, value, program=PROGRAM, kinds=KINDS):
        self.assert_right(require_options, kinds, program, value)

    def assert_no_options(self, index, value, program=PROGRAM, kinds=KINDS):
        self.assert_wrong(require_options, InvalidOptions, index, kinds, program, value)

    def test_how_many(self):
        one = drop(0, 1)
        for many in (1, 2, 3):
            self.assert_options((one,) * many)
        self.assert_no_options(None, ())
        self.assert_no_options(None, (one,) * 4)
        for value in (*OTHER_VALUES, 0, [one], one[:0]):
            self.assert_no_options(None, value)

    def test_indices(self):
        for many in range(5):
            program = (LOOPS,) * many
            for index in range(-2, many + 3):
                rows = ((drop(index, 1), 0 <= index < many), (option(index, DROP, 1), 0 <= index <= many))
                for told, right in rows:
                    if right:
                        self.assert_options((told,), program)
                    else:
                        self.assert_no_options(0, (told,), program)

    def test_costs(self):
        for cost in (0, 1, 98, 99):
            self.assert_options((drop(0, cost), option(2, DROP, cost)))
        for cost in (-1, 100, 1000, None, True, False, "0", (0,), [0]):
            self.assert_no_options(0, (drop(0, cost),))
            self.assert_no_options(0, (option(0, DROP, cost),))

    def test_deeds(self):
        for deed in (LOOPS, DROP, SWAP, put((2, ()))):
            self.assert_options((option(0, deed, 1),))
        for deed in ((), (LOOPS,), list(LOOPS), ("drop", 0, 1), take((3, ())), put((1, (-1,))), None, LOOPS[:3], [LOOPS]):
            self.assert_no_options(0, (option(0, deed, 1),))
        self.assert_no_options(0, (option(0, LOOPS, 1),), kinds=(2, 2))

    def test_words(self):
        for word in ("take", "turn", "Drop", "", None, 0, ("drop",), ["drop"], True):
            self.assert_no_options(0, ((word, 0, 1),))
            self.assert_no_options(0, ((word, 0, DROP, 1),))
        self.assert_no_options(0, (("drop", 0, DROP, 1),))
        self.assert_no_options(0, (("put", 0, 1),))
        self.assert_no_options(0, (("drop", 0),))
        self.assert_no_options(0, (("put", 0),))
        self.assert_no_options(0, (("put", 0, DROP, 1, 1),))
        self.assert_no_options(0, (("put", DROP, 0, 1),))
        self.assert_no_options(0, (put((1, (3,))),))

    def test_booleans_and_lists(self):
        for told in (drop(0, 1), drop(1, 0), option(1, SWAP, 0), option(0, LOOPS, 1)):
            for path, changed in same_but_wrong((told,)):
                self.assert_no_options(None if not path else 0, changed)
            for path, changed in of_other_kinds((told,)):
                self.assert_no_options(None if not path else 0, changed)

    def test_the_first_wrong_one(self):
        for index in range(3):
            for wrong in (*OTHER_VALUES, (), drop(2, 1), drop(0, 100), option(3, DROP, 1), deep(39)):
                told = [drop(1, 99), option(2, SWAP, 0), drop(1, 99)]
                told[index] = wrong
                self.assert_no_options(index, tuple(told))
                self.assert_no_options(index, (*told[:index + 1], *[None] * (2 - index)))

    def test_a_program_without_deeds(self):
        self.assert_options((option(0, LOOPS, 0),) * 3, ())
        self.assert_no_options(0, (drop(0, 0),), ())
        self.assert_no_options(0, (option(1, LOOPS, 0),), ())

    def test_arguments_by_name(self):
        told = (drop(0, 0),)
        self.assertEqual(require_options(value=told, program=(LOOPS,), kinds=KINDS), told)


class ChoicesTest(unittest.TestCase):
    def assert_choices(self, program, options, expected):
        with Unchanged(self, program, options):
            self.assertEqual(shape(list(choices(program, options))), shape(expected))
        self.assertEqual(literal_choices(program, options), expected)

    def test_example_of_the_interface(self):
        options = (drop(0, 3), option(0, take((1, (-1,))), 2))
        told = (list(choices((LOOPS,), options)), cheapest_mend((2, 1), (LOOPS,), (KEEPS,), options, NO_LOOPS))
        self.assertEqual(shape(told), shape(([(), (1,), (0,), (0, 1)], (1,))))

    def test_by_cost_then_as_tuples(self):
        program = (LOOPS, DROP, SWAP)
        self.assert_choices(program, (drop(0, 0), drop(1, 0), drop(2, 0)), [
            (), (0,), (0, 1), (0, 1, 2), (0, 2), (1,), (1, 2), (2,)])
        self.assert_choices(program, (drop(0, 3), drop(1, 2), drop(2, 1)), [
            (), (2,), (1,), (0,), (1, 2), (0, 2), (0, 1), (0, 1, 2)])
        self.assert_choices(program, (drop(0, 2), drop(1, 1), drop(2, 1)), [
            (), (1,), (2,), (0,), (1, 2), (0, 1), (0, 2), (0, 1, 2)])
        self.assert_choices(program, (drop(0, 99), drop(1, 99), drop(2, 99)), [
            (), (0,), (1,), (2,), (0, 1), (0, 2), (1, 2), (0, 1, 2)])
        self.assert_choices(program, (drop(1, 5),), [(), (0,)])
        self.assert_choices(program, (drop(1, 0),), [(), (0,)])

    def test_dropping_the_same_deed(self):
        program = (LOOPS, DROP)
        self.assert_choices(program, (drop(0, 1), drop(0, 2), drop(1, 4)), [(), (0,), (1,), (2,), (0, 2), (1, 2)])
        self.assert_choices(program, (drop(1, 1),) * 3, [(), (0,), (1,), (2,)])
        self.assert_choices(program, (option(0, SWAP, 1), drop(0, 1), option(0, SWAP, 1)), [
            (), (0,), (1,), (2,), (0, 1), (0, 2), (1, 2), (0, 1, 2)])

    def test_at_most_four_deeds(self):
        three = (LOOPS, DROP, SWAP)
        self.assert_choices(three, (option(0, SWAP, 1), option(3, SWAP, 1)), [(), (0,), (1,)])
        self.assert_choices(three, (option(0, SWAP, 1), option(3, SWAP, 1), drop(1, 5)), [
            (), (0,), (1,), (2,), (0, 2), (1, 2), (0, 1, 2)])
        four = three + (LOOPS,)
        self.assert_choices(four, (option(0, SWAP, 1), option(4, SWAP, 2), drop(3, 4)), [(), (2,), (0, 2), (1, 2)])
        self.assert_choices(four, (option(0, SWAP, 1),) * 3, [()])
        self.assert_choices(four, (drop(0, 1), option(0, SWAP, 0), drop(3, 1)), [
            (), (0,), (0, 1), (1, 2), (2,), (0, 1, 2), (0, 2)])
        self.assert_choices((), (option(0, SWAP, 1),) * 3, [(), (0,), (1,), (2,), (0, 1), (0, 2), (1, 2), (0, 1, 2)])
        self.assert_choices(three[:2], (option(0, SWAP, 1),) * 3, [(), (0,), (1,), (2,), (0, 1), (0, 2), (1, 2)])

    def test_a_generator(self):
        found = choices((LOOPS,), (drop(0, 3), option(0, SWAP, 2)))
        self.assertTrue(inspect.isgenerator(found))
        self.assertEqual([next(found), next(found)], [(), (1,)])
        other = choices((LOOPS,), (drop(0, 3),))
        self.assertEqual((next(other), next(found), next(other)), ((), (0,), (0,)))
        self.assertEqual((list(other), list(found)), ([], [(0, 1)]))
        # Nothing is looked at before it is asked for.
        self.assertTrue(inspect.isgenerator(choices(None, None)))

    def test_arguments_by_name(self):
        self.assertEqual(list(choices(options=(drop(0, 3),), program=(LOOPS,))), [(), (0,)])


class ChangedTest(unittest.TestCase):
    def assert_changed(self, program, options, choice, expected):
        with Unchanged(self, program, options, choice):
            self.assertEqual(shape(with_choice(program, options, choice)), shape(expected))
        self.assertEqual(literal_changed(program, options, choice), expected)

    def test_drops(self):
        program, options = (LOOPS, DROP, SWAP), (drop(2, 1), drop(0, 1), drop(1, 1))
        self.assert_changed(program, options, (), program)
        self.assert_changed(program, options, (0,), (LOOPS, DROP))
        self.assert_changed(program, options, (1,), (DROP, SWAP))
        self.assert_changed(program, options, (1, 2), (SWAP,))
        self.assert_changed(program, options, (0, 1, 2), ())

    def test_puts(self):
        one, other, last = (take((1, (thing,))) for thing in (1, 2, 3))
        program = (LOOPS, DROP)
        options = (option(2, one, 1), option(0, other, 1), option(1, last, 1))
        self.assert_changed(program, options, (0,), (LOOPS, DROP, one))
        self.assert_changed(program, options, (1,), (other, LOOPS, DROP))
        self.assert_changed(program, options, (2,), (LOOPS, last, DROP))
        self.assert_changed(program, options, (0, 1), (other, LOOPS, DROP, one))
        self.assert_changed((), (option(0, one, 1), option(0, other, 1)), (0, 1), (one, other))

    def test_several_puts_at_one_index(self):
        deeds = [take((1, (thing,))) for thing in (3, 1, 2)]
        options = tuple(option(1, deed, 9 - index) for index, deed in enumerate(deeds))
        self.assert_changed((LOOPS,), options, (0, 1, 2), (LOOPS, *deeds))
        self.assert_changed((LOOPS, DROP), options, (0, 2), (LOOPS, deeds[0], deeds[2], DROP))
        # Before the deed with the index, whether this is dropped or not.
        options = (*options[:2], drop(1, 1))
        self.assert_changed((LOOPS, DROP, SWAP), options, (0, 1, 2), (LOOPS, deeds[0], deeds[1], SWAP))
        self.assert_changed((LOOPS, DROP, SWAP), options, (1, 2), (LOOPS, deeds[1], SWAP))
        options = (drop(1, 1), option(1, deeds[0], 1), option(2, deeds[1], 1))
        self.assert_changed((LOOPS, DROP), options, (0, 1, 2), (LOOPS, deeds[0], deeds[1]))

    def test_indices_are_those_of_the_unchanged_program(self):
        options = (drop(0, 1), drop(2, 1), option(1, SWAP, 1))
        self.assert_changed((LOOPS, DROP, LOOPS, DROP), options, (0, 1, 2), (SWAP, DROP, DROP))

    def test_drawn(self):
        draws = Draws(81)
        for _ in range(300):
            program = draw_program(draws)
            options = draws.options(KINDS, program, (-1, -2, 0))
            require_options(KINDS, program, options)
            told = list(choices(program, options))
            self.assertEqual(told, literal_choices(program, options))
            for choice in told:
                self.assert_changed(program, options, choice, literal_changed(program, options, choice))

    def test_arguments_by_name(self):
        self.assertEqual(with_choice(choice=(0,), options=(drop(0, 3),), program=(LOOPS,)), ())


def draw_program(draws, most=4):
    return draws.program(KINDS, (-1, -2, 0), most)[draws.below(2):]


class WishTest(unittest.TestCase):
    def assert_wish(self, program, wish, ban, expected, **more):
        with Unchanged(self, program, wish, ban):
            self.assertIs(keeps_wish(KINDS, program, wish, ban, **more), expected)
        self.assertIs(literal_wish(KINDS, program, wish, ban, **more), expected)

    def test_keeps(self):
        self.assert_wish((LOOPS,), KEEPS, NO_LOOPS, False)
        self.assert_wish((take((1, (-1,))), LOOPS), KEEPS, NO_LOOPS, True)
        self.assert_wish((take((1, (-1,))), LOOPS), KEEPS, no_ban(), False)
        self.assert_wish((), KEEPS, NO_LOOPS, True)

    def test_same(self):
        self.assert_wish((LOOPS,), ("same", (LOOPS, LOOPS)), no_ban(), True)
        self.assert_wish((LOOPS,), ("same", ()), no_ban(), False)
        self.assert_wish((LOOPS,), ("same", ()), ban_of((1, (-1,))), True)

    def test_leads_and_spares(self):
        rows = (
            ((), (1, (5,)), True), ((LOOPS,), (0, (5, 5)), True), ((LOOPS,), (0, (4, 4)), False),
            ((take((1, (-1,))), LOOPS), (0, (5, 5)), False), ((turn((0, (3, -1)), (-1, 3)),), (0, (4, 3)), True),
            ((turn((0, (3, -1)), (-1, 3)),), (0, (3, 4)), False), ((put((2, ())),), (2, ()), True))
        for program, fact, there in rows:
            # The ban has no say, also where the store does not keep it.
            for ban in (no_ban(), NO_LOOPS, (0, (part_of(),))):
                self.assert_wish(program, ("leads", STORE, fact), ban, there)
                self.assert_wish(program, ("spares", STORE, fact), ban, not there)

    def test_limits(self):
        six = ("keeps", (0, (unary(-1, -2, -3, -4, -5, -6),)))
        for program, wish, ban, tries in (
                ((LOOPS,), six, no_ban(), 202), ((put((1, (3,))),), six, no_ban(), 63),
                ((put((1, (3,))),), ("same", ()), no_ban(), 1), ((), ("same", (put((1, (3,))),)), no_ban(), 1)):
            with Unchanged(self, program, wish, ban), self.assertRaises(LimitExceeded) as caught:
                keeps_wish(KINDS, program, wish, ban, tries=tries)
            self.assertEqual(caught.exception.limit, tries)
        self.assert_wish((LOOPS,), six, no_ban(), False, tries=203)
        with self.assertRaises(LimitExceeded) as caught:
            keeps_wish(KINDS, (LOOPS,), six, ban_of((1, (3,))))
        self.assertEqual(caught.exception.limit, 300)
        # No comparison is made for these.
        self.assert_wish((put((1, (3,))),), LEADS, no_ban(), True, tries=1)
        self.assert_wish((put((1, (3,))),), SPARES, no_ban(), True, tries=1)

    def test_the_program_is_the_one_and_that_of_the_wish_the_other(self):
        # The first comparison says no only this way round.
        gone, wide = (take((1, (-1,))),), ban_of((1, (3,)))
        kinds = (0, 1)
        told = [outcome(keeps_wish, kinds, one, ("same", other), wide, tries=1) for one, other in ((gone, ()), ((), gone))]
        self.assertEqual(told, [("limit", 1), ("limit", 1)])
        many = (put((0, ())), put((0, ())), put((0, ())))
        for one, other in ((many, ()), ((), many), (gone, many), (many, gone)):
            for tries in range(1, 8):
                self.assertEqual(
                    outcome(keeps_wish, kinds, one, ("same", other), no_ban(), tries=tries),
                    outcome(literal_wish, kinds, one, ("same", other), no_ban(), tries=tries))

    def test_arguments(self):
        told = {"kinds": KINDS, "program": (), "wish": KEEPS, "ban": NO_LOOPS, "tries": 300}
        self.assertIs(keeps_wish(**told), True)
        with self.assertRaises(TypeError):
            keeps_wish(KINDS, (), KEEPS, NO_LOOPS, 300)


class MendTest(unittest.TestCase):
    def assert_mend(self, program, wishes, options, ban, expected, **more):
        with Unchanged(self, program, wishes, options, ban):
            self.assertEqual(shape(cheapest_mend(KINDS, program, wishes, options, ban, **more)), shape(expected))
        self.assertEqual(literal_mend(KINDS, program, wishes, options, ban, **more), expected)

    def test_each_kind_of_wish(self):
        options = (drop(0, 3), option(0, take((1, (-1,))), 2))
        self.assert_mend((LOOPS,), (KEEPS,), options, NO_LOOPS, (1,))
        self.assert_mend((LOOPS,), (("same", ()),), options, no_ban(), (0,))
        self.assert_mend((LOOPS,), (("same", (take((1, (-1,))),)),), options, no_ban(), (1,))
        self.assert_mend((LOOPS,), (("spares", STORE, (0, (5, 5))),), options, no_ban(), (1,))
        self.assert_mend((LOOPS,), (("leads", STORE, (0, (5, 5))),), options, no_ban(), ())
        self.assert_mend((), (("leads", STORE, (2, ())),), (option(0, put((2, ())), 7),), no_ban(), (0,))

    def test_all_wishes(self):
        options = (drop(0, 3), option(0, take((1, (-1,))), 2))
        kept = ("leads", STORE, (1, (5,)))
        self.assert_mend((LOOPS,), (KEEPS, kept), options, NO_LOOPS, (0,))
        self.assert_mend((LOOPS,), (kept, KEEPS), options, NO_LOOPS, (0,))
        self.assert_mend((LOOPS,), (KEEPS, ("spares", STORE, (1, (5,)))), options, NO_LOOPS, (1,))
        self.assert_mend((LOOPS,), (KEEPS, ("spares", STORE, (1, (5,))), ("same", (take((1, (-1,))),))), options, NO_LOOPS, (1,))

    def test_the_empty_choice(self):
        self.assert_mend((DROP,), (KEEPS,), (drop(0, 0),), NO_LOOPS, ())
        self.assert_mend((), (KEEPS,), (option(0, DROP, 0),), NO_LOOPS, ())

    def test_no_choice(self):
        self.assert_mend((LOOPS,), (("leads", STORE, (2, ())),), (drop(0, 0), option(1, DROP, 0)), no_ban(), None)
        self.assert_mend((LOOPS,), (KEEPS, ("leads", STORE, (0, (5, 5)))), (drop(0, 0),), NO_LOOPS, None)
        self.assert_mend((LOOPS,), (LEADS, ("spares", *LEADS[1:])), (drop(0, 0),), NO_LOOPS, None)

    def test_equal_costs(self):
        # Both of the last two mend: the first one as a tuple is told, whatever the order of the options says.
        options = (option(0, take((1, (-1,))), 4), drop(0, 4))
        self.assert_mend((LOOPS,), (KEEPS,), options, NO_LOOPS, (0,))
        self.assert_mend((LOOPS,), (KEEPS,), options[::-1], NO_LOOPS, (0,))
        options = (option(0, DROP, 1), option(0, take((1, (-1,))), 0), drop(0, 1))
        self.assert_mend((LOOPS,), (KEEPS,), options, NO_LOOPS, (1,))

    def test_a_limit_behind_the_first_wish_that_is_not_kept(self):
        over = ("keeps", (0, (unary(-1, -2, -3, -4, -5, -6, kind=1),)))
        never, always = ("leads", STORE, (2, ())), ("leads", STORE, (1, (5,)))
        options = (option(0, DROP, 1),)
        self.assert_mend((), (never, over), options, no_ban(), None, tries=1)
        for wishes in ((over, never), (always, over), (over,)):
            with Unchanged(self, wishes), self.assertRaises(LimitExceeded) as caught:
                cheapest_mend(KINDS, (), wishes, options, no_ban(), tries=202)
            self.assertEqual(caught.exception.limit, 202)
        self.assert_mend((), (over, never), options, no_ban(), None, tries=203)

    def test_a_limit_behind_the_first_choice_that_mends(self):
        wish = ("keeps", ban_of((2, ()), (2, ()), (1, (-1,))))
        gone = take((2, ()))
        # Without a deed: 2 ways of the known thing and another one. With the put there are 4 choices at it.
        options = (option(0, gone, 1), option(0, put((2, ())), 2))
        self.assert_mend((), (wish,), options, ban_of((2, ())), (), tries=1)
        self.assert_mend((), (wish,), options, no_ban(), (0,), tries=1)
        with self.assertRaises(LimitExceeded):
            cheapest_mend(KINDS, (), (wish,), options[1:], no_ban(), tries=1)
        with self.assertRaises(LimitExceeded):
            cheapest_mend(KINDS, (), (wish,), (option(0, gone, 2), option(0, put((2, ())), 1)), no_ban(), tries=1)

    def test_drawn(self):
        draws = Draws(82)
        counts = {"limit": 0, "none": 0, "empty": 0, "mend": 0}
        for _ in range(300):
            program = draw_program(draws, most=3)
            options = draws.options(KINDS, program, (-1, -2, 0))
            wishes = tuple(draws.wish(KINDS, program, (-1, -2, 0)) for _ in range(1 + draws.below(2)))
            require_wishes(KINDS, wishes)
            ban = draws.question(KINDS, 0, (-1, -2, 0), 2) if draws.below(2) else no_ban()
            for tries in (2, 6, 20):
                told = outcome(cheapest_mend, KINDS, program, wishes, options, ban, tries=tries)
                self.assertEqual(
                    shape(told), shape(outcome(literal_mend, KINDS, program, wishes, options, ban, tries=tries)))
                word = {None: "none", (): "empty"}.get(told[1], "mend") if told[0] == "returned" else "limit"
                counts[word] += 1
                for wish, choice in itertools.product(wishes, literal_choices(program, options)):
                    changed = with_choice(program, options, choice)
                    self.assertEqual(
                        outcome(keeps_wish, KINDS, changed, wish, ban, tries=tries),
                        outcome(literal_wish, KINDS, changed, wish, ban, tries=tries))
        self.assertGreater(min(counts.values()), 30, counts)

    def test_arguments(self):
        told = {"kinds": KINDS, "program": (DROP,), "wishes": (KEEPS,), "options": (drop(0, 0),), "ban": NO_LOOPS}
        self.assertEqual(cheapest_mend(**told), ())
        self.assertEqual(cheapest_mend(**told, tries=300), ())
        with self.assertRaises(TypeError):
            cheapest_mend(KINDS, (DROP,), (KEEPS,), (drop(0, 0),), NO_LOOPS, 300)


if __name__ == "__main__":
    unittest.main()
