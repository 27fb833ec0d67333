"""Facts and stores: points 2 and 4, and the interface of stores.py."""

import itertools
import unittest

from variations import OTHER_VALUES, Unchanged, deep, of_other_kinds, same_but_wrong, shape

from backasked.errors import InvalidStore
from backasked.stores import are_among, is_fact, require_store

KINDS = (2, 1, 0)
STORE = ((0, (0, 1)), (0, (1, 0)), (0, (29, 29)), (1, (0,)), (1, (1,)), (2, ()))
ALL_KINDS = tuple(kinds for many in range(1, 5) for kinds in itertools.product(range(3), repeat=many))


def all_facts(kinds):
    """All facts of the kinds, ascending."""
    return tuple((kind, things) for kind, many in enumerate(kinds)
                 for things in itertools.product(range(30), repeat=many))


class FactTest(unittest.TestCase):
    def assert_fact(self, kinds, value):
        self.assertIs(is_fact(kinds, value), True, (kinds, value))

    def assert_no_fact(self, kinds, value):
        self.assertIs(is_fact(kinds, value), False, (kinds, value))

    def test_examples_of_the_interface(self):
        told = (is_fact((2, 1), (0, (3, 4))), are_among(((1, (3,)),), ((0, (3, 4)), (1, (3,)))))
        self.assertEqual(told, (True, True))

    def test_numbers_of_things(self):
        for kinds in ALL_KINDS:
            for kind, many in enumerate(kinds):
                for length in range(4):
                    value = (kind, (3, 4, 5)[:length])
                    self.assertIs(is_fact(kinds, value), length == many, (kinds, value))

    def test_things(self):
        for thing in range(30):
            self.assert_fact((1,), (0, (thing,)))
            self.assert_fact((2,), (0, (thing, 29 - thing)))
        for wrong in (-1, -2, -30, 30, 31, 10 ** 30, -10 ** 30):
            self.assert_no_fact((1,), (0, (wrong,)))
            self.assert_no_fact((2,), (0, (wrong, 0)))
            self.assert_no_fact((2,), (0, (0, wrong)))

    def test_kinds(self):
        for kinds in ALL_KINDS:
            last = len(kinds) - 1
            self.assert_fact(kinds, (last, (0, 0)[:kinds[last]]))
            for many in range(3):
                for kind in (len(kinds), len(kinds) + 1, -1, -len(kinds), 10 ** 30):
                    self.assert_no_fact(kinds, (kind, (0, 0)[:many]))

    def test_booleans_and_lists_at_each_depth(self):
        for value in ((0, (0, 1)), (0, (1, 0)), (1, (1,)), (1, (0,)), (2, ())):
            self.assert_fact(KINDS, value)
            for _, wrong in same_but_wrong(value):
                self.assert_no_fact(KINDS, wrong)

    def test_other_kinds_of_values_at_each_depth(self):
        for value in ((0, (3, 4)), (1, (5,)), (2, ())):
            for path, wrong in of_other_kinds(value):
                self.assert_no_fact(KINDS, wrong)

    def test_other_lengths(self):
        for wrong in ((), (0,), ((3, 4),), (0, (3, 4), ()), (0, (3, 4), 0), (0, 3, 4), (2,), (2, (), ())):
            self.assert_no_fact(KINDS, wrong)

    def test_nested_values(self):
        for wrong in (deep(40), (0, deep(40)), (0, (3, deep(38))), (deep(39), (3, 4)), (0, ((3, 4),)), deep(5000)):
            self.assert_no_fact(KINDS, wrong)

    def test_large_values(self):
        many = tuple(range(30)) * 30000
        for wrong in (many, list(many), (0, many), (1, many), "a" * 1000000, {k: k for k in range(100000)}):
            self.assert_no_fact(KINDS, wrong)

    def test_arguments_by_name(self):
        self.assertIs(is_fact(value=(0, (3, 4)), kinds=(2, 1)), True)
        self.assertIs(is_fact((2, 1), value=(0, (3,))), False)

    def test_arguments_stay(self):
        for value in ((0, (3, 4)), [0, [3, 4]], {0: [1]}, (0, [3, 4])):
            with Unchanged(self, KINDS, value):
                is_fact(KINDS, value)


class RequireStoreTest(unittest.TestCase):
    def assert_store(self, kinds, value):
        with Unchanged(self, kinds, value):
            found = require_store(kinds, value)
        self.assertEqual(shape(found), shape(value))

    def assert_wrong(self, kinds, value, index):
        with Unchanged(self, kinds, value):
            with self.assertRaises(InvalidStore) as caught:
                require_store(kinds, value)
        self.assertEqual(shape(caught.exception.index), shape(index), value)

    def test_stores(self):
        for store in ((), STORE, STORE[:1], STORE[2:], STORE[::2], ((2, ()),), all_facts(KINDS)):
            self.assert_store(KINDS, store)

    def test_each_choice_of_facts(self):
        for many in range(len(STORE) + 1):
            for store in itertools.combinations(STORE, many):
                self.assert_store(KINDS, store)

    def test_each_order_of_facts(self):
        facts = ((0, (0, 1)), (0, (1, 0)), (1, (0,)), (2, ()))
        for row in itertools.product(facts, repeat=3):
            wrong = [k for k in (1, 2) if row[k] <= row[k - 1]]
            if wrong:
                self.assert_wrong(KINDS, row, wrong[0])
            else:
                self.assert_store(KINDS, row)

    def test_no_tuple(self):
        for value in (*OTHER_VALUES, 0, -1, 10 ** 30, list(STORE), {fact: True for fact in STORE}):
            self.assert_wrong(KINDS, value, None)

    def test_booleans_and_lists_at_each_depth(self):
        for path, wrong in same_but_wrong(STORE):
            self.assert_wrong(KINDS, wrong, path[0] if path else None)

    def test_other_kinds_of_values_at_each_depth(self):
        for path, wrong in of_other_kinds(STORE):
            self.assert_wrong(KINDS, wrong, path[0] if path else None)

    def test_a_fact_in_the_place_of_a_store(self):
        self.assert_wrong(KINDS, (0, (3, 4)), 0)
        self.assert_wrong(KINDS, ((3, 4),), 0)

    def test_facts_turned_round(self):
        for index in range(1, len(STORE)):
            before, after = STORE[:index - 1], STORE[index + 1:]
            self.assert_wrong(KINDS, (*before, STORE[index], STORE[index - 1], *after), index)
        self.assert_wrong(KINDS, STORE[::-1], 1)

    def test_facts_twice(self):
        for index in range(len(STORE)):
            self.assert_wrong(KINDS, (*STORE[:index + 1], *STORE[index:]), index + 1)
            self.assert_wrong(KINDS, (*STORE, STORE[index]), len(STORE))

    def test_facts_left_out(self):
        for index in range(len(STORE)):
            self.assert_store(KINDS, (*STORE[:index], *STORE[index + 1:]))

    def test_the_first_wrong_part_is_told(self):
        low, high = (0, (0, 1)), (1, (4,))
        for none in ((0, (30, 0)), (3, ()), None, [], "a", True, (0, [0, 1]), (False, (0, 1))):
            self.assert_wrong(KINDS, (none, high, low), 0)
            self.assert_wrong(KINDS, (low, none, high, low), 1)
            self.assert_wrong(KINDS, (high, low, none), 1)
            self.assert_wrong(KINDS, (low, high, high, none), 2)
            self.assert_wrong(KINDS, (low, high, none), 2)

    def test_a_wrong_part_is_not_compared(self):
        # A tuple and a text, or None, have no order in Python: nothing but InvalidStore may come.
        self.assert_wrong(KINDS, ((0, (0, 1)), (0, ("a", "b"))), 1)
        self.assert_wrong(KINDS, ((0, (0, 1)), ("0", (0, 1))), 1)
        self.assert_wrong(KINDS, ((0, (0, 1)), None), 1)

    def test_number_of_parts(self):
        kinds = (2, 2, 2, 2)
        facts = all_facts(kinds)
        self.assertEqual(len(facts), 3600)
        self.assert_store(kinds, facts)
        self.assert_wrong(kinds, (*facts, (3, (29, 29))), None)
        self.assert_wrong(kinds, (*facts, None), None)
        self.assert_wrong(kinds, (None, *facts), None)
        self.assert_wrong(kinds, (*facts[:-1], None), 3599)
        self.assert_wrong(KINDS, ((2, ()),) * 3600, 1)
        self.assert_wrong(KINDS, ((2, ()),) * 3601, None)
        self.assert_wrong(KINDS, (0,) * 1000000, None)

    def test_fact_of_other_kinds(self):
        self.assert_store((1,), ((0, (3,)),))
        self.assert_wrong((2,), ((0, (3,)),), 0)
        self.assert_wrong((1,), ((0, (3,)), (1, (3,))), 1)

    def test_nested_values(self):
        self.assert_wrong(KINDS, deep(40), 0)
        self.assert_wrong(KINDS, (STORE[0], deep(39)), 1)

    def test_arguments_by_name(self):
        self.assertEqual(require_store(value=STORE, kinds=KINDS), STORE)


class AreAmongTest(unittest.TestCase):
    def test_each_two_stores(self):
        facts = STORE[1:5]
        stores = [store for many in range(5) for store in itertools.combinations(facts, many)]
        for one in stores:
            for other in stores:
                expected = not [fact for fact in one if fact not in other]
                with Unchanged(self, one, other):
                    self.assertIs(are_among(one, other), expected)

    def test_the_empty_store(self):
        self.assertIs(are_among((), ()), True)
        self.assertIs(are_among((), STORE), True)
        self.assertIs(are_among(STORE, ()), False)

    def test_equal_stores(self):
        self.assertIs(are_among(STORE, tuple(list(STORE))), True)

    def test_one_fact_missing(self):
        for index in range(len(STORE)):
            less = (*STORE[:index], *STORE[index + 1:])
            self.assertIs(are_among(STORE, less), False)
            self.assertIs(are_among(less, STORE), True)

    def test_like_facts(self):
        self.assertIs(are_among(((0, (1, 2)),), ((0, (2, 1)),)), False)
        self.assertIs(are_among(((0, (1,)),), ((1, (1,)),)), False)

    def test_large_stores(self):
        facts = all_facts((2, 2, 2, 2))
        self.assertIs(are_among(facts, facts), True)
        self.assertIs(are_among(facts[:-1], facts), True)
        self.assertIs(are_among(facts, facts[:-1]), False)

    def test_arguments_by_name(self):
        self.assertIs(are_among(others=STORE, facts=STORE[1:]), True)
        self.assertIs(are_among(facts=STORE, others=STORE[1:]), False)


if __name__ == "__main__":
    unittest.main()
