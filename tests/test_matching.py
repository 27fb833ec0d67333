"""The search for hits, compared with the slow model: what comparisons rest on (point 12)."""

import unittest

from builders import KINDS, NO_LOOPS, ban_of, part_of
from models import Draws, model_answers, model_values
from literal import facts_and_head
from variations import Unchanged

from backasked.answers import head_with
from backasked.matching import hit_on

FACTS = ((0, (0, 1)), (0, (1, 2)), (1, (0,)), (1, (1,)), (1, (2,)))


class HitTest(unittest.TestCase):
    def assert_hit(self, facts, head, second, ban):
        with Unchanged(self, facts, head, second, ban):
            hit = hit_on(facts, head, second, ban)
        if hit is None:
            self.assertNotIn(head, model_answers(second, facts), (facts, second))
            self.assertEqual(model_answers(ban, facts), (), (facts, ban))
            return None
        word, index, values = hit
        part = (second if word == "answer" else ban)[1][index]
        self.assertIn(values, model_values(part, facts))
        self.assertEqual(head_with(part, values), head if word == "answer" else ())
        return word

    def test_drawn(self):
        draws = Draws(131)
        counts = {}
        terms = (-1, -2, -3, -4, 0, 1)
        for _ in range(1500):
            arity = draws.below(3)
            second, ban = draws.question(KINDS, arity, terms, 4, 3), draws.question(KINDS, 0, terms, 3, 2)
            facts = draws.store(KINDS, (0, 1, 2), 6)
            head = draws.one_of([*model_answers(second, facts), tuple(draws.below(3) for _ in range(arity))])
            word = self.assert_hit(facts, head, second, ban)
            counts[word] = counts.get(word, 0) + 1
        self.assertGreater(min(counts.values()), 100, counts)

    def test_variables_that_stand_alone(self):
        # Of the facts that these may be the first one is as good as another, but not beside a pair or another atom.
        for second in (
                ban_of((1, (-1,)), (1, (-2,)), (1, (-3,))), ban_of((1, (-1,)), (1, (-2,)), unlike=((-2, -1),)),
                ban_of((1, (-1,)), (1, (-2,)), (1, (-3,)), unlike=((-3, -2), (-3, -1), (-2, -1))),
                ban_of((1, (-1,)), (0, (-1, 2))), ban_of((1, (-1,)), unlike=((-1, 0), (-1, 1))),
                ban_of((1, (-1,)), (0, (-2, -3)), (0, (-3, -4))), ban_of((0, (-1, -2)), (0, (-2, -3)), (1, (-3,)))):
            self.assertEqual(self.assert_hit(FACTS, (), second, NO_LOOPS), "answer")
        for second in (
                ban_of((1, (-1,)), (1, (-2,)), (1, (-3,)), (0, (-4, -4))), ban_of((0, (-1, -2)), (0, (-2, -1))),
                ban_of((1, (-1,)), (1, (-2,)), unlike=((-2, 1), (-2, 2), (-2, 0))), ban_of((2, ())),
                ban_of((0, (-1, -2)), (1, (-1,)), unlike=((-1, 0), (-1, 1))), ban_of((0, (2, -1)), unlike=((3, 4),))):
            self.assertIsNone(self.assert_hit(FACTS, (), second, NO_LOOPS))
            self.assertEqual(self.assert_hit(FACTS, (), second, (0, (part_of(),))), "ban")

    def test_the_head(self):
        part = part_of((0, (-1, -2)), (0, (-2, -3)), head=(-1, -3))
        self.assertEqual(self.assert_hit(FACTS, (0, 2), (2, (part,)), NO_LOOPS), "answer")
        for head in ((0, 0), (0, 1), (1, 2), (2, 0), (7, 7)):
            self.assertIsNone(self.assert_hit(FACTS, head, (2, (part,)), NO_LOOPS))
        self.assertEqual(facts_and_head(part, (0, 1, 2))[1], (0, 2))

    def test_many_atoms_without_a_hit(self):
        # Without looking at what stands alone, and at what has few ways first, this would go through 6 ** 5 rows.
        many = tuple((1, (thing,)) for thing in range(6))
        for second in (ban_of(*[(1, (-1 - place,)) for place in range(5)], (1, (9,))),
                       ban_of(*[(1, (-1 - place,)) for place in range(5)], (1, (-6,)), unlike=tuple(
                           (-6, thing) for thing in range(6)))):
            for _ in range(2000):
                self.assertIsNone(hit_on(many, (), second, NO_LOOPS))


if __name__ == "__main__":
    unittest.main()
