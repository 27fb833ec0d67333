"""Live desks: points 2, 3 and 18, and the interface of desks.py."""

import unittest

from builders import DROP, KINDS, LOOPS, NO_LOOPS, SWAP, ban_of, part_of, put, take, unary
from literal import literal_kept, outcome
from models import Draws, model_answers, model_run
from samples import EMPTIED
from test_comparing import THOUSAND
from variations import OTHER_VALUES, Unchanged, deep, exchanged, of_other_kinds, same_but_wrong, shape

from backasked.answers import holds
from backasked.checker import first_fault
from backasked.claims import decide
from backasked.desks import Desk
from backasked.errors import (Banned, InvalidProgram, InvalidQuestion, InvalidStore, LimitExceeded, NothingDone, Refused,
                              Unfounded)
from backasked.judging import is_kept
from backasked.programs import require_program, run
from backasked.questions import no_ban, question_of, require_question
from backasked.stores import require_store

STORE = ((0, (3, 4)), (1, (5,)))
EDGES, THINGS = question_of(KINDS, 0), question_of(KINDS, 1)
SAFE = (EMPTIED, LOOPS)


def come(*facts):
    """A program that puts facts of things up to 9, at most four."""
    return tuple(put(fact) for fact in facts)


def view(desk):
    """All that is to be seen of a desk, and what it keeps for turns to be taken back."""
    twin = desk.twin()
    stores = [twin.store()]
    while twin.turns():
        twin.undo()
        stores.append(twin.store())
    return shape((desk.kinds(), desk.ban(), desk.store(), desk.turns(), desk.adopted(), len(desk), tuple(stores)))


class DeskCase(unittest.TestCase):
    def desk(self, ban=NO_LOOPS, first=STORE, **more):
        return Desk(KINDS, ban, first=first, **more)

    def assert_raises(self, desk, error, told, call, *arguments):
        """The error keeps what is told, and nothing has changed."""
        before = view(desk)
        with Unchanged(self, *arguments), self.assertRaises(error) as caught:
            call(*arguments)
        for name, value in told.items():
            self.assertEqual(shape(getattr(caught.exception, name)), shape(value))
        self.assertEqual(view(desk), before)
        return caught.exception

    def assert_banned(self, desk, store, call, *arguments):
        """Index and things are right ones on the store that would not keep the ban."""
        error = self.assert_raises(desk, Banned, {}, call, *arguments)
        self.assert_breaks(desk.ban(), store, error)

    def assert_breaks(self, ban, store, error):
        self.assertIs(type(error.index), int)
        self.assertIs(type(error.things), tuple)
        self.assertTrue(holds(ban[1][error.index], error.things, store))

    def assert_told(self, desk, call, arguments, expected):
        """What is told, without anything being done."""
        before = view(desk)
        with Unchanged(self, *arguments):
            self.assertEqual(shape(call(*arguments)), shape(expected))
        self.assertEqual(view(desk), before)


class NewDeskTest(DeskCase):
    def test_example_of_the_interface(self):
        desk = Desk((2, 1), NO_LOOPS)
        told = desk.do((("put", (1, (5,)), (), ()),))
        told = (*told, desk.is_safe((LOOPS,)), desk.ask((1, (((-1,), ((1, (-1,)),), ()),))))
        self.assertEqual(shape(told), shape((((1, (5,)),), (), False, ((5,),))))

    def test_a_new_desk(self):
        for ban, first in ((NO_LOOPS, STORE), (no_ban(), ()), (no_ban(), ((0, (3, 3)),)), (NO_LOOPS, ())):
            with Unchanged(self, KINDS, ban, first):
                desk = Desk(KINDS, ban, first=first)
            self.assertEqual(shape((desk.kinds(), desk.ban(), desk.store())), shape((KINDS, ban, first)))
            self.assertEqual(shape((desk.turns(), desk.adopted())), shape(((), ())))
        self.assertEqual(shape(Desk((1,), no_ban()).store()), shape(()))

    def test_arguments(self):
        desk = Desk(tries=300, first=STORE, ban=NO_LOOPS, kinds=KINDS)
        self.assertEqual((desk.kinds(), desk.ban(), desk.store()), (KINDS, NO_LOOPS, STORE))
        with self.assertRaises(TypeError):
            Desk(KINDS, NO_LOOPS, STORE)
        self.assertEqual(desk.do(program=()), ((), ()))
        self.assertEqual(desk.would(program=()), ((), ()))
        self.assertEqual(desk.ask(question=THINGS), ((5,),))
        self.assertEqual(desk.ask_after(question=THINGS, program=()), ((5,),))
        self.assertIs(desk.is_safe(program=()), True)
        self.assertIsNone(desk.adopt(certificate=decide(("kept", KINDS, NO_LOOPS, (), NO_LOOPS))))
        self.assertIsNone(desk.back_to(count=0))

    def assert_none(self, error, told, ban, first):
        with Unchanged(self, ban, first), self.assertRaises(error) as caught:
            Desk(KINDS, ban, first=first)
        for name, value in told.items():
            self.assertEqual(shape(getattr(caught.exception, name)), shape(value))
        return caught.exception

    def test_bans_that_are_none(self):
        for ban, part in ((None, None), ((), None), ([0, ()], None), ((3, ()), "arity"), ((True, ()), "arity"),
                          ((1, ()), "arity"), ((2, EDGES[1]), "arity"), ((0, []), "parts"), ((0, [part_of()]), "parts"),
                          ((0, (part_of((3, ())),)), 0), ((0, (part_of(), part_of())), 1), ((1, (part_of(),)), 0),
                          (THINGS, "arity")):
            # The ban comes before the store.
            for first in (STORE, (), None, STORE[::-1], ((0, (3, 3)),)):
                self.assert_none(InvalidQuestion, {"part": part}, ban, first)

    def test_stores_that_are_none(self):
        rows = [(None, None), ([], None), ("", None), ({}, None), (STORE[::-1], 1), (STORE + STORE[1:], 2), ((None,), 0),
                (((0, (3, 30)),), 0), (((0, (3, 4)), (1, (True,))), 1), (((0, (3, 3)), (0, (3, 3))), 1)]
        rows += [(((0, (3, 4)), (2, ()), (1, (5,))), 2), ((list(STORE[0]), STORE[1]), 0)]
        for first, index in rows:
            # That it is no store comes before its not keeping the ban.
            for ban in (NO_LOOPS, (0, (part_of(),))):
                self.assert_none(InvalidStore, {"index": index}, ban, first)

    def test_a_first_store_that_does_not_keep_the_ban(self):
        rows = ((NO_LOOPS, ((0, (3, 3)),)), ((0, (part_of(),)), ()), (ban_of((0, (-1, -2)), (1, (-2,))), (STORE[0], (0, (3, 5)), STORE[1])),
                ((0, (part_of((0, (-1, -1))), part_of((1, (-1,))), part_of((2, ())))), STORE),
                (ban_of((1, (-1,)), unlike=((-1, 3),)), ((1, (3,)), (1, (29,)))))
        for ban, first in rows:
            error = self.assert_none(Banned, {}, ban, first)
            self.assert_breaks(ban, first, error)

    def test_other_values_at_each_depth(self):
        for path, changed in [*same_but_wrong(NO_LOOPS), *of_other_kinds(NO_LOOPS)]:
            with self.assertRaises(InvalidQuestion):
                Desk(KINDS, changed, first=STORE)
        for path, changed in [*same_but_wrong(STORE), *of_other_kinds(STORE)]:
            with self.assertRaises(InvalidStore):
                Desk(KINDS, NO_LOOPS, first=changed)


class DoTest(DeskCase):
    def test_what_comes_and_goes(self):
        desk = self.desk()
        rows = (
            (come((2, ()), (1, (3,))), ((1, (3,)), (2, ())), ()),
            ((take((1, (-1,)), (-1, 3)), SWAP), ((0, (4, 3)),), ((0, (3, 4)), (1, (5,)))),
            ((), (), ()),
            ((put((2, ())),), (), ()),
            # It comes between the deeds, and is gone again.
            ((put((1, (9,))), take((1, (9,)))), (), ()),
            ((take((2, ())), put((2, ()))), (), ()),
            ((take((0, (-1, -2))), take((1, (-1,))), take((2, ()))), (), ((0, (4, 3)), (1, (3,)), (2, ()))),
        )
        store = STORE
        for index, (program, came, gone) in enumerate(rows):
            self.assert_told(desk, desk.would, (program,), (came, gone))
            with Unchanged(self, program):
                self.assertEqual(shape(desk.do(program)), shape((came, gone)))
            store = run(program, store)
            self.assertEqual(shape(desk.store()), shape(store))
            self.assertEqual(shape(desk.turns()), shape(tuple(row[0] for row in rows[:index + 1])))

    def test_a_ban_that_is_broken_between_deeds_only(self):
        desk = self.desk()
        program = (LOOPS, take((0, (-1, -1))))
        self.assert_told(desk, desk.would, (program,), ((), ()))
        self.assertEqual(desk.do(program), ((), ()))
        self.assertEqual(desk.turns(), (program,))

    def test_no_programs(self):
        desk = self.desk()
        for value, index in ((None, None), ([], None), ((LOOPS,) * 5, None), (LOOPS, 0), ((None,), 0), (((),), 0),
                             ((DROP, take((3, ()))), 1), ((DROP, LOOPS, list(DROP)), 2), ("", None), (True, None),
                             (come((1, (5,)), (0, (4, 4))) + (None,), 2), (deep(40), 0)):
            for call in (desk.do, desk.would):
                # That it is no program comes before the ban.
                self.assert_raises(desk, InvalidProgram, {"index": index}, call, value)

    def test_programs_that_are_refused(self):
        desk = self.desk((0, (part_of((0, (-1, -1))), part_of((2, ())))))
        for program in ((LOOPS,), come((0, (7, 7))), come((2, ())), come((2, ()), (0, (7, 7))), (DROP, LOOPS, EMPTIED),
                        (put((0, (-1, -1)), (0, (-1, -2))),)):
            for call in (desk.do, desk.would):
                self.assert_banned(desk, run(program, STORE), call, program)
        self.assertEqual(desk.do(SAFE), ((), ((1, (5,)),)))

    def test_things_of_a_ban_with_several_variables(self):
        ban = (0, (part_of((0, (-2, -1)), (1, (-1,)), unlike=((-2, 3),)), part_of((1, (-5,)), (1, (-6,)), unlike=((-6, -5),))))
        desk = self.desk(ban)
        self.assert_banned(desk, run(come((0, (7, 5))), STORE), desk.do, come((0, (7, 5))))
        self.assert_banned(desk, run(come((1, (6,))), STORE), desk.do, come((1, (6,))))
        self.assertEqual(desk.do(come((0, (3, 5)))), (((0, (3, 5)),), ()))


class AskTest(DeskCase):
    def test_ask(self):
        desk = self.desk()
        for question, expected in ((EDGES, ((3, 4),)), (THINGS, ((5,),)), (ban_of((2, ())), ()), ((0, (part_of(),)), ((),))):
            self.assert_told(desk, desk.ask, (question,), expected)
        desk.do(come((1, (9,)), (2, ())))
        self.assert_told(desk, desk.ask, (THINGS,), ((5,), (9,)))
        self.assert_told(desk, desk.ask, (ban_of((2, ())),), ((),))

    def test_ask_after(self):
        desk = self.desk()
        self.assert_told(desk, desk.ask_after, (come((1, (9,))), THINGS), ((5,), (9,)))
        self.assert_told(desk, desk.ask_after, ((SWAP,), EDGES), ((4, 3),))
        self.assert_told(desk, desk.ask_after, ((), EDGES), ((3, 4),))
        # Also after a program that would be refused.
        self.assert_told(desk, desk.ask_after, ((LOOPS,), EDGES), ((3, 4), (5, 5)))
        self.assert_told(desk, desk.ask, (EDGES,), ((3, 4),))

    def test_no_questions(self):
        desk = self.desk()
        for value, part in ((None, None), ([], None), ((3, ()), "arity"), ((False, ()), "arity"), ((0, None), "parts"),
                            ((1, (part_of(),)), 0), ((1, THINGS[1] * 2), 1), (deep(40), None), (STORE, "arity")):
            self.assert_raises(desk, InvalidQuestion, {"part": part}, desk.ask, value)
            self.assert_raises(desk, InvalidQuestion, {"part": part}, desk.ask_after, (LOOPS,), value)
            # That it is no program comes first.
            self.assert_raises(desk, InvalidProgram, {"index": 0}, desk.ask_after, (None,), value)
        self.assert_raises(desk, InvalidProgram, {"index": None}, desk.ask_after, LOOPS + (None,), THINGS)
        self.assert_raises(desk, InvalidProgram, {"index": 1}, desk.ask_after, (DROP, ()), THINGS)


class SafeTest(DeskCase):
    def test_for_all_stores(self):
        desk = self.desk(first=())
        for program, expected in ((SAFE, True), ((LOOPS,), False), ((), True), ((SWAP,), True), ((put((0, (3, 3))),), False),
                                  ((take((0, (-1, -1))),), True)):
            self.assert_told(desk, desk.is_safe, (program,), expected)
            self.assertIs(literal_kept(program, NO_LOOPS, NO_LOOPS), expected)
        # It is not safe, though this store would keep the ban.
        self.assertEqual(desk.do((LOOPS,)), ((), ()))

    def test_no_programs(self):
        desk = self.desk(THOUSAND, first=(), tries=1)
        for value, index in ((None, None), ((None,), 0), (LOOPS, 0), ((LOOPS,) * 5, None)):
            self.assert_raises(desk, InvalidProgram, {"index": index}, desk.is_safe, value)

    def test_limits(self):
        ban = (0, (unary(-1, -2, -3, -4, -5),))
        program = (put((1, (-1,)), (1, (-1,))),)
        for tries in range(1, 70, 3):
            desk = self.desk(ban, first=(), tries=tries)
            self.assertEqual(outcome(desk.is_safe, program), outcome(is_kept, program, ban, ban, tries=tries))
            twin = desk.twin()
            self.assertEqual(outcome(twin.is_safe, program), outcome(is_kept, program, ban, ban, tries=tries))
        desk = self.desk(ban, first=(), tries=31)
        self.assert_raises(desk, LimitExceeded, {"limit": 31}, desk.is_safe, program)
        self.assert_raises(self.desk(THOUSAND, ()), LimitExceeded, {"limit": 300}, self.desk(THOUSAND, ()).is_safe, ())
        self.assertIs(self.desk(THOUSAND, (), tries=1000).is_safe(()), True)


class AdoptTest(DeskCase):
    def certificate(self, program, ban=NO_LOOPS, other=None, kinds=KINDS, **more):
        return decide(("kept", kinds, ban, program, other or ban), **more)

    def test_once_and_twice(self):
        desk = self.desk()
        for program, expected in ((SAFE, (SAFE,)), ((), (SAFE, ())), (SAFE, (SAFE, ())), ((SWAP,), (SAFE, (), (SWAP,))),
                                  ((), (SAFE, (), (SWAP,)))):
            certificate = self.certificate(program)
            with Unchanged(self, certificate):
                self.assertIsNone(desk.adopt(certificate))
            self.assertEqual(shape(desk.adopted()), shape(expected))
        self.assertEqual((desk.store(), desk.turns()), (STORE, ()))

    def test_another_paper_for_the_same_program(self):
        desk = self.desk()
        certificate = self.certificate((SWAP,))
        desk.adopt(certificate)
        desk.adopt(certificate[:2] + (certificate[2],))
        self.assertEqual(desk.adopted(), ((SWAP,),))

    def test_other_bans_claims_verdicts(self):
        desk = self.desk()
        more = (0, (*NO_LOOPS[1], part_of((2, ()))))
        for certificate in (
                self.certificate(SAFE, no_ban()), self.certificate(SAFE, more), self.certificate(SAFE, NO_LOOPS, no_ban()),
                self.certificate((take((0, (-1, -1))),), no_ban(), NO_LOOPS), self.certificate((SWAP,), kinds=(2,)),
                self.certificate((SWAP,), kinds=(2, 1)), self.certificate((LOOPS,)), self.certificate((SWAP,), kinds=(2, 1, 1)),
                decide(("same", KINDS, NO_LOOPS, SAFE, SAFE)), decide(("settled", KINDS, NO_LOOPS, SAFE)),
                decide(("within", KINDS, NO_LOOPS, NO_LOOPS, NO_LOOPS)),
                decide(("untouched", KINDS, NO_LOOPS, SAFE, NO_LOOPS)),
                decide(("mend", KINDS, NO_LOOPS, SAFE, (("keeps", NO_LOOPS),), (("drop", 0, 1),), 0))):
            self.assertIsNone(first_fault(certificate))
            self.assert_raises(desk, Unfounded, {"fault": ("other",)}, desk.adopt, certificate)

    def test_faults(self):
        desk = self.desk()
        right = self.certificate(SAFE)
        wrong = exchanged(right, (2, 0, 0, 2), (7,))
        self.assertEqual(first_fault(wrong), ("hit", 0, 0))
        rows = [(value, ("form",)) for value in (*OTHER_VALUES, 0, right[:2], list(right), desk, deep(40))]
        rows += [(exchanged(right, (1, 3), (None,)), ("claim",)), (exchanged(right, (0,), "Shown"), ("paper",)),
                 (exchanged(right, (0,), "broken"), ("paper",)), (wrong, ("hit", 0, 0)), (exchanged(right, (2,), ()), ("paper",)),
                 (exchanged(self.certificate((LOOPS,)), (2, 0), ()), ("same",))]
        for value, fault in rows:
            error = self.assertRaises(Unfounded)
            before = view(desk)
            with error as caught:
                desk.adopt(value)
            self.assertEqual(shape(caught.exception.fault), shape(fault))
            self.assertEqual(view(desk), before)
        # A fault comes before its being a certificate of another desk.
        other = exchanged(self.certificate(SAFE, (0, (*NO_LOOPS[1], part_of((2, ()))))), (2,), ())
        self.assert_raises(desk, Unfounded, {"fault": ("paper",)}, desk.adopt, other)
        self.assertEqual(desk.adopted(), ())

    def test_values_of_other_kinds_at_each_depth(self):
        desk = self.desk()
        right = self.certificate(SAFE)
        for path, changed in [*same_but_wrong(right), *of_other_kinds(right)]:
            self.assert_raises(desk, Unfounded, {"fault": first_fault(changed)}, desk.adopt, changed)

    def test_certificates_do_not_hang_on_the_tries_of_the_desk(self):
        desk = self.desk(tries=1)
        desk.adopt(self.certificate(SAFE))
        self.assertEqual(desk.adopted(), (SAFE,))
        desk = self.desk(THOUSAND, (), tries=1)
        desk.adopt(self.certificate((), THOUSAND, tries=1000))
        self.assertEqual(desk.adopted(), ((),))

    def test_adopted_programs_stay(self):
        desk = self.desk()
        desk.do(come((2, ())))
        desk.adopt(self.certificate(SAFE))
        desk.undo()
        self.assertEqual(desk.adopted(), (SAFE,))
        desk.do((SWAP,))
        desk.adopt(self.certificate((SWAP,)))
        desk.back_to(0)
        desk += ((), ())
        self.assertEqual(desk.adopted(), (SAFE, (SWAP,)))
        self.assertEqual(desk.twin().adopted(), (SAFE, (SWAP,)))

    def test_an_adopted_program_is_never_refused(self):
        draws = Draws(111)
        adopted = done = 0
        for _ in range(300):
            ban, program = draws.question(KINDS, 0, (-1, -2, 0), 2), draws.program(KINDS, (-1, -2, 0), 3)
            told = outcome(decide, ("kept", KINDS, ban, program, ban))
            if told[0] == "limit" or told[1][0] == "broken":
                continue
            adopted += 1
            for _ in range(6):
                first = draws.store(KINDS, (0, 1, 5), 8)
                if not model_answers(ban, first):
                    desk = Desk(KINDS, ban, first=first)
                    desk.adopt(told[1])
                    desk.do(desk.adopted()[0])
                    self.assertEqual(desk.store(), model_run(program, first))
                    done += 1
        self.assertGreater(min(adopted, done // 2), 100)


class TurnsTest(DeskCase):
    PROGRAMS = (come((1, (9,))), (), (SWAP,), (EMPTIED,), come((2, ()), (0, (6, 7))))

    def filled(self):
        desk = self.desk()
        stores = [STORE]
        for program in self.PROGRAMS:
            desk.do(program)
            stores.append(desk.store())
        return desk, stores

    def test_undo(self):
        desk, stores = self.filled()
        for left in range(4, -1, -1):
            self.assertIsNone(desk.undo())
            self.assertEqual(shape((desk.store(), desk.turns())), shape((stores[left], self.PROGRAMS[:left])))
        self.assert_raises(desk, NothingDone, {}, desk.undo)
        desk.do((SWAP,))
        self.assertEqual(desk.turns(), ((SWAP,),))
        desk.undo()
        self.assertEqual(desk.store(), STORE)

    def test_nothing_done_on_a_new_desk(self):
        desk = self.desk()
        self.assert_raises(desk, NothingDone, {}, desk.undo)
        self.assertIsNone(desk.back_to(0))
        self.assertEqual((desk.store(), desk.turns()), (STORE, ()))
        self.assert_raises(desk, NothingDone, {}, desk.back_to, 1)

    def test_back_to(self):
        for count in range(6):
            desk, stores = self.filled()
            self.assertIsNone(desk.back_to(count))
            self.assertEqual(shape((desk.store(), desk.turns())), shape((stores[count], self.PROGRAMS[:count])))
            self.assertIsNone(desk.back_to(count))
            self.assert_raises(desk, NothingDone, {}, desk.back_to, count + 1)
            desk.do(come((1, (8,))))
            self.assertEqual(desk.turns(), (*self.PROGRAMS[:count], come((1, (8,)))))
            desk.undo()
            self.assertEqual(desk.store(), stores[count])

    def test_values_that_are_no_numbers_of_turns(self):
        desk, _ = self.filled()
        for value in (*OTHER_VALUES, -1, 6, 7, 500, 10 ** 20, (), (0,), [0], "0", desk):
            before = view(desk)
            with self.assertRaises(NothingDone):
                desk.back_to(value)
            self.assertEqual(view(desk), before)

    def test_turns_that_changed_nothing_are_taken_back_one_by_one(self):
        desk = self.desk()
        for _ in range(3):
            desk.do(())
        desk.undo()
        self.assertEqual(desk.turns(), ((), ()))
        desk.back_to(1)
        self.assertEqual(desk.turns(), ((),))

    def test_five_hundred_turns(self):
        desk = self.desk()
        for index in range(500):
            desk.do(come((1, (index % 10,))) if index % 20 < 10 else (EMPTIED,))
        self.assertEqual(len(desk.turns()), 500)
        desk.back_to(7)
        self.assertEqual(desk.store(), ((0, (3, 4)), *[(1, (thing,)) for thing in range(7)]))


class TwinTest(DeskCase):
    def test_a_twin(self):
        desk = self.desk(tries=77)
        desk.do(come((1, (9,))))
        desk.adopt(decide(("kept", KINDS, NO_LOOPS, SAFE, NO_LOOPS)))
        before = view(desk)
        twin = desk.twin()
        self.assertIsNot(twin, desk)
        self.assertIs(type(twin), Desk)
        self.assertEqual((view(twin), view(desk)), (before, before))
        self.assertTrue(twin == desk)

    def test_each_goes_its_own_way(self):
        def changes():
            return (lambda desk: desk.do(come((2, ()))), lambda desk: desk.undo(), lambda desk: desk.back_to(0),
                    lambda desk: desk.adopt(decide(("kept", KINDS, NO_LOOPS, SAFE, NO_LOOPS))),
                    lambda desk: desk.__iadd__(((), (SWAP,))))
        for change in changes():
            desk = self.desk()
            desk.do(come((1, (9,))))
            desk.do((SWAP,))
            for changed, other in ((desk.twin(), desk), (desk, desk.twin())):
                before = view(other)
                change(changed)
                self.assertNotEqual(view(changed), before)
                self.assertEqual(view(other), before)

    def test_a_twin_has_its_own_turns_and_the_first_store(self):
        desk = self.desk()
        desk.do(come((1, (9,))))
        twin = desk.twin()
        desk.undo()
        desk.do(come((1, (8,))))
        twin.do(come((1, (7,))))
        self.assertEqual(desk.store(), (*STORE, (1, (8,))))
        self.assertEqual(twin.store(), (STORE[0], *[(1, (thing,)) for thing in (5, 7, 9)]))
        twin.back_to(0)
        self.assertEqual((twin.store(), twin.turns()), (STORE, ()))
        self.assertEqual(desk.turns(), (come((1, (8,))),))
        again = twin.twin().twin()
        self.assertEqual(view(again), view(twin))


class SignsTest(DeskCase):
    def test_in(self):
        desk = self.desk(first=((0, (0, 1)), (1, (0,)), (1, (5,)), (2, ())))
        for fact in desk.store():
            self.assertIs(fact in desk, True)
        for value in ((0, (1, 0)), (1, (1,)), (1, (29,)), (3, ()), (0, (0,)), (), 0, (0,), (0, (0, 1), 0), deep(40)):
            self.assertIs(value in desk, False)
        for value in OTHER_VALUES:
            self.assertIs(value in desk, False)
        for fact in desk.store():
            for _, changed in [*same_but_wrong(fact), *of_other_kinds(fact)]:
                self.assertIs(changed in desk, False, changed)
        self.assertIs((False, (0, 1)) in desk, False)
        self.assertIs((0, (False, True)) in desk, False)
        self.assertIs((True, (5,)) in desk, False)
        self.assertIs(desk in desk, False)
        desk.do((EMPTIED,))
        self.assertIs((1, (5,)) in desk, False)
        self.assertIs((1, (5,)) not in desk, True)

    def test_equal(self):
        desk = self.desk()
        self.assertIs(desk == desk, True)
        self.assertIs(desk == self.desk(), True)
        self.assertIs(desk != self.desk(), False)
        self.assertIs(desk == self.desk(tries=5), True)
        # Whatever its turns and adopted programs are.
        other = self.desk(first=())
        self.assertIs(desk == other, False)
        other.do(come((0, (3, 4))))
        other.do(come((1, (5,))))
        other.adopt(decide(("kept", KINDS, NO_LOOPS, SAFE, NO_LOOPS)))
        self.assertIs(desk == other, True)
        other.do(())
        self.assertIs(other == desk, True)
        other.undo()
        other.undo()
        self.assertIs(desk == other, False)
        self.assertIs(desk != other, True)

    def test_desks_of_other_kinds_and_bans(self):
        desk = self.desk()
        self.assertIs(desk == Desk((2, 1, 1), NO_LOOPS, first=STORE), False)
        self.assertIs(desk == Desk((2, 1), NO_LOOPS, first=STORE), False)
        self.assertIs(desk == Desk(KINDS, no_ban(), first=STORE), False)
        self.assertIs(desk == Desk(KINDS, ban_of((0, (-2, -2))), first=STORE), False)
        self.assertIs(desk == Desk(KINDS, NO_LOOPS, first=STORE[:1]), False)

    def test_other_values(self):
        desk = self.desk()
        for value in (*OTHER_VALUES, 0, 2, STORE, (), (KINDS, NO_LOOPS, STORE), Desk, object(), len):
            self.assertIs(desk == value, False)
            self.assertIs(value == desk, False)
            self.assertIs(desk != value, True)

    def test_len(self):
        desk = self.desk(first=())
        for many, program in enumerate((come((2, ())), come((1, (3,))), come((0, (3, 4))), come((0, (4, 3))))):
            self.assertEqual(shape(len(desk)), shape(many))
            desk.do(program)
        desk.do((EMPTIED, take((0, (-1, -2)))))
        self.assertEqual(len(desk), 1)


class SeveralTest(DeskCase):
    def assert_refused(self, desk, index, value):
        def add(value):
            told = desk
            told += value
        self.assert_raises(desk, Refused, {"index": index}, add, value)

    def test_one_turn_each(self):
        desk = same = self.desk()
        programs = (come((1, (9,))), (), (SWAP,), (EMPTIED, LOOPS))
        with Unchanged(self, programs):
            desk += programs
        self.assertIs(desk, same)
        self.assertIs(type(desk), Desk)
        self.assertEqual(shape(desk.turns()), shape(programs))
        self.assertEqual(desk.store(), ((0, (4, 3)),))
        desk.undo()
        self.assertEqual(desk.store(), ((0, (4, 3)), (1, (5,)), (1, (9,))))
        desk += ((),)
        self.assertEqual(desk.turns(), (*programs[:3], ()))
        desk.back_to(1)
        self.assertEqual(desk.store(), (*STORE, (1, (9,))))
        desk += ()
        self.assertIs(desk, same)
        self.assertEqual(desk.turns(), programs[:1])

    def test_fifty_and_fifty_one(self):
        desk = same = self.desk()
        programs = tuple(come((1, (index % 10,))) for index in range(51))
        self.assert_refused(desk, -1, programs)
        desk += programs[:50]
        self.assertIs(desk, same)
        self.assertEqual(desk.turns(), programs[:50])
        self.assertEqual(len(desk), 11)
        self.assert_refused(desk, -1, (None,) * 51)

    def test_one_is_refused_in_the_middle(self):
        desk = self.desk()
        desk.do(come((2, ())))
        for index in range(4):
            for wrong in ((LOOPS,), None, (None,), (LOOPS,) * 5, list(SAFE), LOOPS, "", True, come((0, (4, 4)))):
                programs = [come((1, (7,))), (), (SWAP,)]
                programs.insert(index, wrong)
                self.assert_refused(desk, index, tuple(programs))
                self.assert_refused(desk, index, (*programs[:index + 1], None, (LOOPS,)))

    def test_one_after_the_other(self):
        # Whether a program is refused hangs on what those before it did.
        desk = self.desk()
        self.assert_refused(desk, 1, ((SWAP,), (LOOPS,), None))
        desk += ((EMPTIED,), (LOOPS,))
        self.assertEqual(desk.turns(), ((EMPTIED,), (LOOPS,)))
        self.assert_refused(desk, 2, ((LOOPS,), come((1, (3,))), (LOOPS,)))

    def test_no_tuples(self):
        desk = self.desk()
        for value in (*OTHER_VALUES, 0, 5, [()], [SAFE], {0: SAFE}):
            self.assert_refused(desk, -1, value)
        with self.assertRaises(Refused) as caught:
            desk += desk
        self.assertEqual(caught.exception.index, -1)
        self.assert_refused(desk, 0, SAFE)


class HistoryTest(DeskCase):
    """Point 3: after every history the store keeps its ban, and is the one that the turns lead to."""

    def step(self, draws, desk):
        way = draws.below(12)
        program = draws.program(KINDS, (-1, -2, 0), 2)
        try:
            if way < 5:
                desk.do(program)
            elif way < 6:
                desk.would(program)
            elif way < 7:
                desk.undo()
            elif way < 8:
                desk.back_to(draws.below(len(desk.turns()) + 2))
            elif way < 10:
                told = desk
                told += tuple(draws.program(KINDS, (-1, -2, 0), 2) for _ in range(draws.below(3)))
            elif way < 11:
                desk.adopt(decide(("kept", KINDS, desk.ban(), program, desk.ban())))
            elif desk.adopted():
                desk.do(draws.one_of(desk.adopted()))
            return "done"
        except (Banned, NothingDone, Refused, Unfounded, LimitExceeded) as error:
            return type(error).__name__

    def test_drawn_histories(self):
        draws = Draws(112)
        counts = {}
        for _ in range(300):
            ban, first = draws.question(KINDS, 0, (-1, -2, 0), 3), draws.store(KINDS, (0, 1, 5), 6)
            require_question(KINDS, ban)
            if model_answers(ban, first):
                continue
            desks = [Desk(KINDS, ban, first=first)]
            for _ in range(25):
                desk = draws.one_of(desks)
                others = [(other, view(other)) for other in desks if other is not desk]
                before = view(desk)
                word = self.step(draws, desk)
                counts[word] = counts.get(word, 0) + 1
                if word != "done":
                    self.assertEqual(view(desk), before)
                for other, seen in others:
                    self.assertEqual(view(other), seen)
                require_store(KINDS, desk.store())
                self.assertEqual(model_answers(ban, desk.store()), ())
                self.assertEqual(desk.store(), model_run([deed for turn in desk.turns() for deed in turn], first))
                for program in desk.turns():
                    require_program(KINDS, program)
                if draws.below(8) == 0 and len(desks) < 3:
                    desks.append(desk.twin())
        self.assertLessEqual({"done", "Banned", "NothingDone", "Refused", "Unfounded"}, set(counts))
        self.assertGreater(counts["Banned"], 30)


if __name__ == "__main__":
    unittest.main()
