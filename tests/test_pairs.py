"""towerrow.pairs: points [1], [5] and [6]."""

import unittest

from plain import Stubborn, after, fewest, mixed_state, no_numbers, no_rules, no_states, states
from refusals import RefusalCase
from towerrow.errors import BadNumber, BadRule, BadState, Unlike
from towerrow.pairs import apart, number_of, state_of
from towerrow.ways import behind, left, next_move

RULES = ("free", "line")
MANY = [[0] * 400, [1] * 400, mixed_state(400, 7), mixed_state(400, 31), [0, 2] * 200, [1] + [2] * 399]


class Apart(unittest.TestCase):
    def test_every_pair_of_few_discs_against_a_plain_search(self):
        for rule in RULES:
            for discs in range(5):
                for one in states(discs):
                    self.hold_against_search(rule, one)

    def hold_against_search(self, rule, one):
        found = fewest(rule, one)
        for other in states(len(one)):
            with self.subTest(rule=rule, one=one, other=other):
                self.assertEqual(apart(rule, one, other), found[tuple(other)])

    def test_more_discs_from_some_states(self):
        for rule in RULES:
            for discs in (5, 6, 7):
                for seed in range(1, 9):
                    self.hold_against_search(rule, mixed_state(discs, seed))

    def test_the_greatest_disc_by_the_third_peg(self):
        # Straight there the lesser discs would need three moves ahead and three behind: seven in all.
        self.assertEqual(apart("free", [1, 1, 0], [0, 0, 1]), 5)
        self.assertEqual(apart("free", [1] * 300 + [0], [0] * 300 + [1]), 2 ** 300 + 1)

    def test_the_same_the_other_way_round(self):
        for rule in RULES:
            for one in states(3) + MANY:
                for other in states(3) + MANY:
                    if len(one) == len(other):
                        self.assertEqual(apart(rule, one, other), apart(rule, other, one))

    def test_none_just_where_both_are_one(self):
        for rule in RULES:
            for one in states(3) + MANY:
                for other in states(3) + MANY:
                    if len(one) == len(other):
                        self.assertEqual(apart(rule, one, list(other)) == 0, one == other)
            self.assertEqual(apart(rule, [], []), 0)
            state = [0, 1, 2]
            self.assertEqual(apart(rule, state, state), 0)

    def test_to_all_on_one_peg_as_many_as_left(self):
        for rule in RULES:
            for one in states(5) + MANY:
                for peg in range(3):
                    self.assertEqual(apart(rule, one, [peg] * len(one)), left(rule, one, peg))

    def test_many_discs(self):
        self.assertEqual(apart("free", [0] * 400, [2] * 400), 2 ** 400 - 1)
        self.assertEqual(apart("line", [0] * 400, [2] * 400), 3 ** 400 - 1)
        for rule in RULES:
            for start in MANY:
                count = left(rule, start, 2)
                for first in (0, count // 9, count // 2):
                    for second in (first, first + count // 3, count):
                        here = behind(rule, start, 2, first)
                        there = behind(rule, start, 2, second)
                        self.assertEqual(apart(rule, here, there), second - first)

    def test_many_discs_one_move_makes_one_of_difference_at_most(self):
        for rule in RULES:
            for one in MANY:
                for other in MANY:
                    if next_move(rule, one, 0):
                        near = after(one, *next_move(rule, one, 0))
                        self.assertLessEqual(abs(apart(rule, near, other) - apart(rule, one, other)), 1)
                        self.assertEqual(apart(rule, near, one), 1)

    def test_greater_discs_that_stand_alike_count_nothing(self):
        for rule in RULES:
            for one in states(2):
                for other in states(2):
                    for greater in states(2):
                        same = greater * 100
                        self.assertEqual(apart(rule, one + same, other + same), apart(rule, one, other))

    def test_kinds(self):
        for rule in RULES:
            for one in states(2):
                for other in states(2):
                    self.assertIs(type(apart(rule, one, other)), int)


class Numbers(unittest.TestCase):
    def test_along_the_best_way_of_few_discs(self):
        for discs in range(7):
            state = [0] * discs
            seen = []
            for number in range(3 ** discs):
                with self.subTest(discs=discs, number=number):
                    self.assertEqual(number_of(state), number)
                    self.assertEqual(state_of(discs, number), state)
                seen.append(tuple(state))
                move = next_move("line", state, 2)
                state = after(state, *move) if move else state
            self.assertEqual(state, [2] * discs)
            self.assertEqual(sorted(seen), [tuple(each) for each in states(discs)])

    def test_against_a_plain_search(self):
        for discs in range(7):
            found = fewest("line", [0] * discs)
            for state in states(discs):
                self.assertEqual(number_of(state), found[tuple(state)])
                self.assertEqual(state_of(discs, found[tuple(state)]), state)

    def test_no_discs(self):
        self.assertEqual(number_of([]), 0)
        self.assertEqual(state_of(0, 0), [])

    def test_by_hand(self):
        self.assertEqual([state_of(2, number) for number in range(9)],
                         [[0, 0], [1, 0], [2, 0], [2, 1], [1, 1], [0, 1], [0, 2], [1, 2], [2, 2]])
        self.assertEqual([number_of([peg]) for peg in range(3)], [0, 1, 2])

    def test_many_discs(self):
        self.assertEqual(number_of([0] * 500), 0)
        self.assertEqual(number_of([2] * 500), 3 ** 500 - 1)
        self.assertEqual(number_of([1] * 500), (3 ** 500 - 1) // 2)
        self.assertEqual(state_of(500, 0), [0] * 500)
        self.assertEqual(state_of(500, 3 ** 500 - 1), [2] * 500)
        for state in MANY:
            self.assertEqual(state_of(400, number_of(state)), state)
            self.assertEqual(behind("line", [0] * 400, 2, number_of(state)), state)
        for number in (1, 2, 3 ** 399 - 1, 3 ** 399, 7 ** 200, 3 ** 400 - 2):
            self.assertEqual(number_of(state_of(400, number)), number)

    def test_kinds(self):
        for number in range(27):
            state = state_of(3, number)
            self.assertIs(type(state), list)
            self.assertEqual([type(peg) for peg in state], [int, int, int])
            self.assertIs(type(number_of(state)), int)


class Handed(RefusalCase):
    def test_no_state_is_changed(self):
        for rule in RULES:
            for one in states(2):
                for other in states(2):
                    before = (list(one), list(other))
                    apart(rule, one, other)
                    number_of(one)
                    self.assertEqual((one, other), before)

    def test_no_state_is_changed_where_something_is_refused(self):
        one = [0, 1, 3]
        other = [1, 2]
        self.assertRefused(BadState, apart, "free", one, other)
        self.assertRefused(BadState, apart, "free", other, one)
        self.assertRefused(BadRule, apart, "round", one, other)
        self.assertRefused(BadState, number_of, one)
        self.assertRefused(Unlike, apart, "line", other, [0])
        self.assertEqual((one, other), ([0, 1, 3], [1, 2]))

    def test_a_told_state_is_new(self):
        for number in range(9):
            told = state_of(2, number)
            before = list(told)
            told.append(5)
            told[0] = 9
            self.assertEqual(state_of(2, number), before)


class RefusalsOfApart(RefusalCase):
    def test_no_rule(self):
        for place, rule in enumerate(no_rules() + ["round"]):
            for one, other in (([0, 1], [1, 1]), ([], []), ([0], [0])):
                with self.subTest(place=place):
                    self.assertRefused(BadRule, apart, rule, one, other)

    def test_no_state(self):
        for place, state in enumerate(no_states()):
            with self.subTest(place=place):
                self.assertRefused(BadState, apart, RULES[place % 2], state, [0, 1, 2])
                self.assertRefused(BadState, apart, RULES[place % 2], [0, 1, 2], state)
                self.assertRefused(BadState, apart, RULES[place % 2], state, state)

    def test_other_counts_of_discs(self):
        for rule in RULES:
            for one, other in (([], [0]), ([0], [0, 0]), ([1, 2], [1, 2, 0]), ([0] * 300, [0] * 301), ([], [2] * 300)):
                self.assertRefused(Unlike, apart, rule, one, other)
                self.assertRefused(Unlike, apart, rule, other, one)

    def test_the_first_of_the_refusals(self):
        bad = (None, (0,), "0", [3], [True], [0, 1, 2.0], Stubborn())
        for rule in ("round", "ring", None, True, [], Stubborn()):
            for one in bad + ([0],):
                for other in bad + ([0], [0, 1]):
                    self.assertRefused(BadRule, apart, rule, one, other)
        for rule in RULES:
            for state in bad:
                for other in ([], [0], [0] * 9):
                    self.assertRefused(BadState, apart, rule, state, other)
                    self.assertRefused(BadState, apart, rule, other, state)


class RefusalsOfNumbers(RefusalCase):
    def test_no_state(self):
        for place, state in enumerate(no_states()):
            with self.subTest(place=place):
                self.assertRefused(BadState, number_of, state)

    def test_no_numbers(self):
        for place, value in enumerate(no_numbers() + [-1, -2, -(10 ** 5000)]):
            with self.subTest(place=place):
                for whole in (0, 1, 2, 10 ** 5000):
                    self.assertRefused(BadNumber, state_of, value, whole)
                    self.assertRefused(BadNumber, state_of, whole, value)
                self.assertRefused(BadNumber, state_of, value, value)

    def test_the_bounds(self):
        for discs in (0, 1, 2, 3, 4, 5, 300):
            self.assertEqual(state_of(discs, 0), [0] * discs)
            self.assertEqual(state_of(discs, 3 ** discs - 1), [2] * discs)
            for number in (-1, 3 ** discs, 3 ** discs + 1, 10 ** 5000):
                self.assertRefused(BadNumber, state_of, discs, number)


if __name__ == "__main__":
    unittest.main()
