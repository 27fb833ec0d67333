"""The first guarantee of point 3: a question after a program, and the led-back one before it, on many stores."""

import unittest

from models import Draws, model_answers, model_run, stores_over
from variations import Unchanged, shape

from backasked.answers import answers, keeps
from backasked.errors import LimitExceeded
from backasked.leading import choices_at, led_back, normal
from backasked.programs import require_program, run
from backasked.questions import known_things, require_question

KINDS = (2, 1, 0)
TERMS = (-1, -2, -3, 0, 1)


def led_back_or_none(program, question, **more):
    try:
        return led_back(program, question, **more)
    except LimitExceeded:
        return None


class GuaranteeTest(unittest.TestCase):
    def assert_guarantee(self, program, question, before, store):
        expected = model_answers(question, model_run(program, store))
        told = (program, question, store)
        self.assertEqual(answers(before, store), expected, told)
        self.assertEqual(answers(question, run(program, store)), expected, told)

    def test_on_all_small_stores(self):
        # All stores over the known thing 1 and the new one 5, for programs of 1 to 2 deeds.
        draws = Draws(31)
        kinds = (2, 1)
        asked = []
        for _ in range(120):
            program, question = draws.program(kinds, (-1, -2, 1), 2), draws.question(kinds, draws.below(3), (-1, -2, 1), 2)
            before = led_back_or_none(program, question)
            if before is not None:
                asked.append((program, question, before))
        self.assertGreater(len(asked), 100)
        for store in stores_over(kinds, (1, 5)):
            for program, question, before in asked:
                self.assert_guarantee(program, question, before, store)

    def test_on_drawn_stores(self):
        draws = Draws(32)
        returned = 0
        for _ in range(500):
            program, question = draws.program(KINDS, TERMS, 4), draws.question(KINDS, draws.below(3), TERMS, 3)
            require_program(KINDS, program)
            with Unchanged(self, program, question):
                before = led_back_or_none(program, question)
            if before is None:
                continue
            returned += 1
            for _ in range(6):
                self.assert_guarantee(program, question, before, draws.store(KINDS, (0, 1, 2, 5), 14))
        self.assertGreater(returned, 400)

    def test_each_deed_alone(self):
        draws = Draws(33)
        for _ in range(500):
            deed, question = draws.deed(KINDS, TERMS), draws.question(KINDS, draws.below(3), TERMS, 3)
            if choices_at(deed, question) <= 300:
                before = led_back_or_none((deed,), question)
                if before is not None:
                    for _ in range(4):
                        self.assert_guarantee((deed,), question, before, draws.store(KINDS, (0, 1, 2, 5), 14))

    def test_bans(self):
        draws = Draws(34)
        kept = asked = 0
        for _ in range(300):
            program, ban = draws.program(KINDS, TERMS, 3), draws.question(KINDS, 0, TERMS, 3)
            before = led_back_or_none(program, ban)
            if before is not None:
                for _ in range(4):
                    store = draws.store(KINDS, (0, 1, 2, 5), 10)
                    self.assertIs(keeps(before, store), keeps(ban, run(program, store)), (program, ban, store))
                    kept += keeps(before, store)
                    asked += 1
        self.assertTrue(asked // 5 < kept < asked * 4 // 5, (kept, asked))


class LedBackQuestionTest(unittest.TestCase):
    def test_it_is_a_question_in_normal_form(self):
        draws = Draws(35)
        for _ in range(300):
            program, question = draws.program(KINDS, TERMS, 4), draws.question(KINDS, draws.below(3), TERMS, 3)
            before = led_back_or_none(program, question)
            if before is not None:
                if len(before[1]) <= 1000:
                    require_question(KINDS, before)
                self.assertEqual(before[0], question[0])
                self.assertEqual([normal(part) for part in before[1]], list(before[1]))
                self.assertEqual(shape(before), shape(led_back((), before)))
                things = {term for deed in program for term in things_of(deed)}
                self.assertLessEqual(set(known_things(before)), things | set(known_things(question)))

    def test_two_halves_one_after_the_other(self):
        draws = Draws(36)
        tried = 0
        for _ in range(300):
            program, question = draws.program(KINDS, TERMS, 4), draws.question(KINDS, draws.below(3), TERMS, 3)
            whole = led_back_or_none(program, question)
            for place in range(len(program)):
                after = led_back_or_none(program[place:], question)
                halves = None if after is None else led_back_or_none(program[:place], after)
                self.assertEqual(halves, whole, (program, question, place))
                tried += 1
            # Where the second half has no deeds the question is in normal form, no longer as it is given.
            if whole is not None:
                other = led_back(program, led_back((), question))
                for _ in range(4):
                    store = draws.store(KINDS, (0, 1, 2, 5), 14)
                    self.assertEqual(answers(other, store), answers(whole, store))
        self.assertGreater(tried, 500)

    def test_more_deeds_than_a_program_has(self):
        draws = Draws(37)
        returned = 0
        for _ in range(100):
            program, question = draws.program(KINDS, (-1, -2, 0), 4) * 2, draws.question(KINDS, 1, (-1, -2, 0), 2)
            before = led_back_or_none(program, question, tries=1000)
            if before is not None:
                returned += 1
                for _ in range(4):
                    store = draws.store(KINDS, (0, 1, 5), 10)
                    self.assertEqual(answers(before, store), model_answers(question, model_run(program, store)))
        self.assertGreater(returned, 60)

    def test_a_greater_limit_changes_nothing(self):
        draws = Draws(38)
        for _ in range(200):
            program, question = draws.program(KINDS, TERMS, 3), draws.question(KINDS, 1, TERMS, 3)
            for tries in (1, 4, 16, 64):
                found = led_back_or_none(program, question, tries=tries)
                if found is not None:
                    self.assertEqual(found, led_back_or_none(program, question, tries=tries * 2))


def things_of(value):
    """All integers from 0 up that stand at any depth of a deed; kinds are among them."""
    if isinstance(value, tuple):
        return [thing for part in value for thing in things_of(part)]
    return [value] if isinstance(value, int) and value >= 0 else []


if __name__ == "__main__":
    unittest.main()
