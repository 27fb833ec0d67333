"""The ways of being alike: point 11, and the interface of ways.py."""

import inspect
import itertools
import unittest

from builders import part_of
from models import Draws, are_unlike, model_variables, model_ways
from variations import Unchanged, shape

from backasked.answers import holds, keeps
from backasked.questions import known_things
from backasked.stores import require_store
from backasked.ways import facts_of, way_like, ways_of

KINDS = (2, 1, 0)
WIDE = ((), ((0, (-1, -2)), (0, (-3, -4)), (0, (-5, -6)), (0, (-7, -8))), ())


def are_like(one, other, known):
    """Whether the known things stand at the same places, and the same places have the same things."""
    same = all((a == b) == (c == d) for (a, c), (b, d) in itertools.product(zip(one, other), repeat=2))
    return same and all(a == b or (a not in known and b not in known) for a, b in zip(one, other))


class WaysTest(unittest.TestCase):
    def assert_ways(self, part, known, expected):
        with Unchanged(self, part, known):
            self.assertEqual(shape(list(ways_of(part, known))), shape(expected))
        self.assertEqual(expected, model_ways(part, known))

    def test_examples_of_the_interface(self):
        part = ((), ((0, (-1, -2)),), ((-2, 3),))
        told = (list(ways_of(part, (3,))), way_like(part, (7, 8), (3,)))
        self.assertEqual(shape(told), shape(([(0, 0), (0, 1), (3, 0)], (0, 1))))

    def test_example_of_the_document(self):
        self.assert_ways(part_of((0, (-1, -2))), (1,), [(0, 0), (0, 1), (0, 2), (1, 0), (1, 1)])

    def test_no_variables(self):
        for known in ((), (3,), (0, 1, 2)):
            self.assert_ways(part_of(), known, [()])
            self.assert_ways(part_of((2, ())), known, [()])
        self.assert_ways(part_of((0, (3, 4)), (2, ()), head=(3,)), (3, 4), [()])
        self.assert_ways(part_of(unlike=((3, 4),)), (3, 4), [()])

    def test_one_variable(self):
        part = part_of((1, (-1,)))
        self.assert_ways(part, (), [(0,)])
        self.assert_ways(part, (0,), [(0,), (1,)])
        self.assert_ways(part, (1,), [(0,), (1,)])
        self.assert_ways(part, (0, 1, 2, 4), [(0,), (1,), (2,), (3,), (4,)])
        self.assert_ways(part, tuple(range(10)), [(thing,) for thing in range(11)])
        self.assert_ways(part_of((0, (-7, -7)), (1, (-7,))), (5,), [(0,), (5,)])

    def test_two_variables(self):
        part = part_of((0, (-2, -1)))
        self.assert_ways(part, (), [(0, 0), (0, 1)])
        self.assert_ways(part, (0,), [(0, 0), (0, 1), (1, 0), (1, 1), (1, 2)])
        self.assert_ways(part, (1,), [(0, 0), (0, 1), (0, 2), (1, 0), (1, 1)])
        self.assert_ways(part, (0, 2), [
            (0, 0), (0, 1), (0, 2), (1, 0), (1, 1), (1, 2), (1, 3), (2, 0), (2, 1), (2, 2)])

    def test_known_things_beside_those_of_the_part(self):
        part = part_of((0, (-1, 4)))
        self.assert_ways(part, (4,), [(0,), (4,)])
        self.assert_ways(part, (0, 4, 9), [(0,), (1,), (4,), (9,)])

    def test_pairs(self):
        body = ((0, (-1, -2)),)
        self.assert_ways(part_of(*body, unlike=((-2, -1),)), (), [(0, 1)])
        self.assert_ways(part_of(*body, unlike=((-2, -1),)), (0,), [(0, 1), (1, 0), (1, 2)])
        self.assert_ways(part_of(*body, unlike=((-1, 0),)), (0,), [(1, 0), (1, 1), (1, 2)])
        self.assert_ways(part_of(*body, unlike=((-2, 0), (-1, 0))), (0,), [(1, 1), (1, 2)])
        self.assert_ways(part_of(*body, unlike=((-2, -1), (-2, 0), (-1, 0))), (0,), [(1, 2)])
        self.assert_ways(part_of(*body, unlike=((3, 4),)), (3, 4), [
            (0, 0), (0, 1), (0, 3), (0, 4), (3, 0), (3, 3), (3, 4), (4, 0), (4, 3), (4, 4)])
        # The values are for the variables in the order of the body, whatever their numbers.
        self.assert_ways(part_of((0, (-2, -1)), unlike=((-2, 0),)), (0,), [(1, 0), (1, 1), (1, 2)])

    def test_pairs_of_variables_that_come_late(self):
        part = part_of((0, (-1, -2)), (1, (-3,)), unlike=((-3, -1),))
        self.assert_ways(part, (), [(0, 0, 1), (0, 1, 1), (0, 1, 2)])

    def test_three_and_four_variables(self):
        # Without known things the ways are the partitions of the variables.
        counts = (1, 1, 2, 5, 15)
        for many in range(5):
            part = part_of(*[(1, (-1 - place,)) for place in range(many)])
            self.assertEqual(len(list(ways_of(part, ()))), counts[many])
            for known in ((), (0,), (2,), (1, 3), (0, 1, 4)):
                self.assert_ways(part, known, model_ways(part, known))

    def test_drawn_parts(self):
        draws = Draws(41)
        for _ in range(200):
            part = draws.part(KINDS, 1, (-1, -2, -3, -4, 0, 2), 3)
            known = tuple(sorted({*known_things((1, (part,))), *[draws.below(5) for _ in range(draws.below(3))]}))
            self.assert_ways(part, known, model_ways(part, known))

    def test_ascending(self):
        draws = Draws(42)
        for _ in range(50):
            part = draws.part(KINDS, 0, (-1, -2, -3, -4, -5, 1, 3), 4)
            found = list(ways_of(part, (1, 3, 7)))
            self.assertEqual(found, sorted(set(found)))

    def test_all_known_things(self):
        part = part_of((0, (-1, -2)), (0, (-3, -4)))
        found = list(ways_of(part, tuple(range(10))))
        # 10 known things, and by the number of new values so far one more each.
        self.assertEqual(len(found), 10 ** 4 + 4 * 10 ** 3 + 6 * 2 * 10 ** 2 + 4 * 5 * 10 + 15)
        self.assertEqual((found[0], found[-1]), ((0, 0, 0, 0), (10, 11, 12, 13)))

    def test_arguments_by_name(self):
        self.assertEqual(list(ways_of(known=(), part=part_of((1, (-1,))))), [(0,)])


class LazyTest(unittest.TestCase):
    def test_a_generator(self):
        self.assertTrue(inspect.isgenerator(ways_of(WIDE, ())))
        self.assertTrue(inspect.isgenerator(ways_of(part_of(), ())))

    def test_a_few_of_very_many(self):
        known = tuple(range(10))
        found = ways_of(WIDE, known)
        self.assertEqual([next(found) for _ in range(3)], [(0,) * 7 + (thing,) for thing in range(3)])
        found.close()

    def test_a_few_of_very_many_with_pairs(self):
        known = tuple(range(10))
        things = tuple((term, thing) for term in range(-8, 0) for thing in known)
        variables = tuple(itertools.combinations(range(-8, 0), 2))
        every = (WIDE[0], WIDE[1], tuple(sorted(things + variables)))
        self.assertEqual(list(ways_of(every, known)), [tuple(range(10, 18))])
        unlike = (WIDE[0], WIDE[1], things)
        found = ways_of(unlike, known)
        self.assertEqual([next(found) for _ in range(2)], [(10,) * 8, (10,) * 7 + (11,)])
        # The last variable is unlike the first one: with each beginning there is a way.
        late = (WIDE[0], WIDE[1], ((-8, -1),))
        found = ways_of(late, known)
        self.assertEqual([next(found) for _ in range(2)], [(0,) * 7 + (1,), (0,) * 7 + (2,)])

    def test_two_at_a_time(self):
        part = part_of((0, (-1, -2)))
        one, other = ways_of(part, (1,)), ways_of(part, ())
        self.assertEqual([(next(one), next(other)) for _ in range(2)], [((0, 0), (0, 0)), ((0, 1), (0, 1))])
        self.assertEqual((list(one), list(other)), ([(0, 2), (1, 0), (1, 1)], []))


class WayLikeTest(unittest.TestCase):
    def assert_like(self, part, values, known, expected):
        with Unchanged(self, part, values, known):
            self.assertEqual(shape(way_like(part, values, known)), shape(expected))

    def test_no_variables(self):
        self.assert_like(part_of((2, ())), (), (), ())
        self.assert_like(part_of((0, (3, 4))), (), (3, 4), ())

    def test_known_things_stay(self):
        part = part_of((0, (-1, -2)))
        self.assert_like(part, (3, 3), (3,), (3, 3))
        self.assert_like(part, (3, 9), (3,), (3, 0))
        self.assert_like(part, (9, 3), (0, 3), (1, 3))
        self.assert_like(part, (0, 1), (0, 1), (0, 1))

    def test_new_things_in_their_order(self):
        part = part_of((0, (-1, -2)), (0, (-3, -4)))
        self.assert_like(part, (29, 29, 29, 29), (), (0, 0, 0, 0))
        self.assert_like(part, (29, 28, 29, 27), (), (0, 1, 0, 2))
        self.assert_like(part, (2, 1, 0, 1), (), (0, 1, 2, 1))
        self.assert_like(part, (2, 1, 0, 3), (1,), (0, 1, 2, 3))
        self.assert_like(part, (5, 4, 3, 5), (0, 1), (2, 3, 4, 2))
        self.assert_like(part, (1, 0, 1, 0), (2,), (0, 1, 0, 1))

    def test_eight_new_things(self):
        values = (29, 28, 27, 26, 25, 24, 23, 22)
        self.assert_like(WIDE, values, tuple(range(10)), tuple(range(10, 18)))
        self.assert_like(WIDE, values, (0, 2, 4), (1, 3, 5, 6, 7, 8, 9, 10))

    def test_exactly_one_way_is_like_values(self):
        draws = Draws(43)
        tried = 0
        for _ in range(150):
            part = draws.part(KINDS, 0, (-1, -2, -3, -4, 0, 2), 3)
            known = tuple(sorted({*known_things((0, (part,))), *[draws.below(5) for _ in range(draws.below(2))]}))
            ways = list(ways_of(part, known))
            for _ in range(6):
                values = tuple(draws.one_of((0, 1, 2, 3, 7, 29)) for _ in model_variables(part[1]))
                if are_unlike(part, values):
                    like = [way for way in ways if are_like(way, values, known)]
                    self.assertEqual(len(like), 1, (part, known, values))
                    self.assert_like(part, values, known, like[0])
                    tried += 1
        self.assertGreater(tried, 400)

    def test_a_way_is_like_itself(self):
        part = part_of((0, (-1, -2)), (1, (-3,)), unlike=((-3, -2), (-1, 4)))
        for known in ((4,), (0, 4), (1, 4, 6)):
            for way in ways_of(part, known):
                self.assert_like(part, way, known, way)

    def test_arguments_by_name(self):
        self.assertEqual(way_like(known=(3,), values=(7,), part=part_of((1, (-1,)))), (0,))


class FactsTest(unittest.TestCase):
    def assert_facts(self, part, values, expected):
        with Unchanged(self, part, values):
            self.assertEqual(shape(facts_of(part, values)), shape(expected))

    def test_a_set(self):
        self.assert_facts(part_of((1, (-1,)), (0, (-1, -2))), (3, 4), ((0, (3, 4)), (1, (3,))))
        self.assert_facts(part_of((1, (-1,)), (1, (-2,))), (4, 3), ((1, (3,)), (1, (4,))))
        self.assert_facts(part_of((1, (-1,)), (1, (-2,))), (4, 4), ((1, (4,)),))
        self.assert_facts(part_of((0, (-1, -2)), (0, (-2, -1))), (4, 4), ((0, (4, 4)),))
        self.assert_facts(part_of((0, (-1, 3)), (0, (3, -1))), (3,), ((0, (3, 3)),))
        self.assert_facts(part_of((2, ()), (2, ())), (), ((2, ()),))
        self.assert_facts(part_of(), (), ())

    def test_head_and_pairs_are_not_looked_at(self):
        self.assert_facts(part_of((1, (-1,)), head=(7,), unlike=((-1, 3),)), (3,), ((1, (3,)),))

    def test_the_facts_of_a_way(self):
        # On the facts of its way a part holds with it.
        draws = Draws(44)
        for _ in range(100):
            part = draws.part(KINDS, 0, (-1, -2, -3, 0, 2), 3)
            for way in ways_of(part, known_things((0, (part,)))):
                facts = facts_of(part, way)
                require_store(KINDS, facts)
                self.assertTrue(holds(part, way, facts))
                self.assertFalse(keeps((0, (part,)), facts))
                self.assertFalse(any(holds(part, way, tuple(fact for fact in facts if fact != each)) for each in facts))

    def test_arguments_by_name(self):
        self.assertEqual(facts_of(values=(3,), part=part_of((1, (-1,)))), ((1, (3,)),))


if __name__ == "__main__":
    unittest.main()
