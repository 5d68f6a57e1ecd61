"""towerrow.ways.behind: points [1] and [4]."""

import unittest

from plain import RULES, Stubborn, after, mixed_state, no_numbers, no_pegs, no_rules, no_states, states
from refusals import RefusalCase
from towerrow.errors import BadNumber, BadPeg, BadRule, BadState
from towerrow.states import done
from towerrow.ways import behind, left, next_move

MANY = [[0] * 300, [2] * 300, mixed_state(300, 5), mixed_state(401, 23), [1] + [0] * 299, [0] * 299 + [1]]


class Answers(unittest.TestCase):
    def test_every_number_at_every_state_of_few_discs(self):
        for rule in RULES:
            for discs in range(6 if rule == "free" else 5):
                for peg in range(3):
                    for start in states(discs):
                        self.follow(rule, start, peg)

    def follow(self, rule, start, peg):
        state = start
        count = left(rule, start, peg)
        for number in range(count + 1):
            with self.subTest(rule=rule, start=start, peg=peg, number=number):
                self.assertEqual(behind(rule, start, peg, number), state)
            if number < count:
                state = after(state, *next_move(rule, state, peg))
        self.assertEqual(state, [peg] * len(start))

    def test_towers_of_more_discs(self):
        for rule, discs in (("free", 9), ("line", 6), ("round", 6)):
            for peg in range(3):
                for start in range(3):
                    self.follow(rule, [start] * discs, peg)

    def test_no_discs(self):
        for rule in RULES:
            for peg in range(3):
                self.assertEqual(behind(rule, [], peg, 0), [])

    def test_by_hand(self):
        self.assertEqual([behind("free", [0, 0], 2, number) for number in range(4)], [[0, 0], [1, 0], [1, 2], [2, 2]])
        self.assertEqual([behind("round", [0, 0], 1, number) for number in range(6)],
                         [[0, 0], [1, 0], [2, 0], [2, 1], [0, 1], [1, 1]])
        self.assertEqual([behind("line", [2], 0, number) for number in range(3)], [[2], [1], [0]])

    def test_many_discs_as_many_fewer_are_left(self):
        for rule in RULES:
            for peg in range(3):
                for start in MANY:
                    count = left(rule, start, peg)
                    for number in (0, 1, count // 7, count // 3, count // 2, count - count // 3, count - 1, count):
                        if 0 <= number <= count:
                            told = behind(rule, start, peg, number)
                            self.assertEqual(len(told), len(start))
                            self.assertEqual(left(rule, told, peg), count - number)

    def test_many_discs_at_both_ends(self):
        for rule in RULES:
            for peg in range(3):
                for start in MANY:
                    self.assertEqual(behind(rule, start, peg, 0), start)
                    self.assertEqual(behind(rule, start, peg, left(rule, start, peg)), [peg] * len(start))

    def test_many_discs_it_lies_on_the_best_way(self):
        for rule in RULES:
            for start in MANY:
                count = left(rule, start, 1)
                for number in (0, count // 5, count // 2, count - 30):
                    here = behind(rule, start, 1, number)
                    path = []
                    for further in range(1, 30):
                        path.append(next_move(rule, done(rule, here, path), 1))
                        self.assertEqual(behind(rule, start, 1, number + further), done(rule, here, path))

    def test_of_two_numbers_one_behind_the_other(self):
        for rule in RULES:
            for start in MANY:
                count = left(rule, start, 2)
                first = count // 3
                second = count // 4
                here = behind(rule, start, 2, first)
                self.assertEqual(behind(rule, here, 2, second), behind(rule, start, 2, first + second))

    def test_kinds(self):
        for rule in RULES:
            for start in states(3) + MANY:
                told = behind(rule, start, 0, left(rule, start, 0) // 2)
                self.assertIs(type(told), list)
                self.assertEqual({type(peg) for peg in told}, {int})


class Handed(RefusalCase):
    def test_of_no_moves_a_new_list(self):
        for rule in RULES:
            for state in states(3) + [[]]:
                told = behind(rule, state, 1, 0)
                self.assertEqual(told, state)
                self.assertIsNot(told, state)

    def test_the_state_is_not_changed_and_what_is_told_is_new(self):
        for rule in RULES:
            for state in states(3):
                before = list(state)
                for number in range(left(rule, state, 0) + 1):
                    told = behind(rule, state, 0, number)
                    kept = list(told)
                    told.reverse()
                    told.append(7)
                    self.assertEqual(state, before)
                    self.assertEqual(behind(rule, state, 0, number), kept)

    def test_nothing_is_changed_where_something_is_refused(self):
        state = [0, 1, 2]
        self.assertRefused(BadNumber, behind, "free", state, 0, 100)
        self.assertRefused(BadPeg, behind, "free", state, 3, 0)
        self.assertRefused(BadRule, behind, "ring", state, 0, 0)
        self.assertEqual(state, [0, 1, 2])
        state = [0, 1, 3]
        self.assertRefused(BadState, behind, "free", state, 0, 0)
        self.assertEqual(state, [0, 1, 3])


class Refusals(RefusalCase):
    def test_no_rule(self):
        for place, rule in enumerate(no_rules()):
            with self.subTest(place=place):
                self.assertRefused(BadRule, behind, rule, [0, 1], 2, 0)

    def test_no_state(self):
        for place, state in enumerate(no_states()):
            with self.subTest(place=place):
                self.assertRefused(BadState, behind, RULES[place % 3], state, 2, 0)

    def test_no_peg(self):
        for place, peg in enumerate(no_pegs()):
            for state in ([0, 1], []):
                with self.subTest(place=place):
                    self.assertRefused(BadPeg, behind, RULES[place % 3], state, peg, 0)

    def test_no_number(self):
        for place, number in enumerate(no_numbers()):
            for state in ([0, 1], [2, 2], []):
                with self.subTest(place=place):
                    self.assertRefused(BadNumber, behind, RULES[place % 3], state, 2, number)

    def test_the_bounds(self):
        for rule in RULES:
            for peg in range(3):
                for state in states(3) + [[]] + MANY:
                    count = left(rule, state, peg)
                    self.assertEqual(behind(rule, state, peg, 0), state)
                    self.assertEqual(behind(rule, state, peg, count), [peg] * len(state))
                    for number in (-1, -2, -count - 1, count + 1, count + 2, 10 ** 5000, -(10 ** 5000)):
                        self.assertRefused(BadNumber, behind, rule, state, peg, number)

    def test_the_first_of_the_refusals(self):
        for number in (None, -1, True, 5000, Stubborn(), 0):
            for peg in (None, 3, True, Stubborn(), 0):
                for state in (None, (0,), [3], [True], Stubborn(), [0, 1]):
                    self.assertRefused(BadRule, behind, "ring", state, peg, number)
                    self.assertRefused(BadRule, behind, Stubborn(), state, peg, number)
                for state in (None, (0,), [3], [True], Stubborn()):
                    self.assertRefused(BadState, behind, "line", state, peg, number)
            for peg in (None, 3, -1, True, Stubborn()):
                self.assertRefused(BadPeg, behind, "line", [0, 1], peg, number)


if __name__ == "__main__":
    unittest.main()
