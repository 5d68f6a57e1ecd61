"""towerrow.states.moves: points [1] and [2]."""

import unittest

from plain import RULES, all_moves, deep_list, list_in_itself, mixed_state, other_kinds, states, Stubborn
from refusals import RefusalCase
from towerrow.errors import BadRule, BadState
from towerrow.states import moves


class Answers(unittest.TestCase):
    def test_every_state_of_few_discs(self):
        for rule in RULES:
            for discs in range(7):
                for state in states(discs):
                    with self.subTest(rule=rule, state=state):
                        self.assertEqual(moves(rule, state), all_moves(rule, state))

    def test_no_discs(self):
        for rule in RULES:
            self.assertEqual(moves(rule, []), [])

    def test_one_disc(self):
        self.assertEqual([moves("free", [peg]) for peg in range(3)],
                         [[(0, 1), (0, 2)], [(0, 0), (0, 2)], [(0, 0), (0, 1)]])
        self.assertEqual([moves("line", [peg]) for peg in range(3)], [[(0, 1)], [(0, 0), (0, 2)], [(0, 1)]])
        self.assertEqual([moves("round", [peg]) for peg in range(3)], [[(0, 1)], [(0, 2)], [(0, 0)]])

    def test_two_and_three_discs_by_hand(self):
        self.assertEqual(moves("free", [1, 0]), [(0, 0), (0, 2), (1, 2)])
        self.assertEqual(moves("line", [1, 0]), [(0, 0), (0, 2)])
        self.assertEqual(moves("line", [2, 0]), [(0, 1), (1, 1)])
        self.assertEqual(moves("round", [1, 0]), [(0, 2)])
        self.assertEqual(moves("round", [1, 2]), [(0, 2), (1, 0)])
        self.assertEqual(moves("free", [2, 0, 1]), [(0, 0), (0, 1), (1, 1)])

    def test_all_discs_on_one_peg(self):
        for rule in RULES:
            for peg in range(3):
                for discs in (1, 2, 3, 400):
                    self.assertEqual(moves(rule, [peg] * discs), moves(rule, [peg]))

    def test_many_discs(self):
        for rule in RULES:
            for seed in range(1, 21):
                state = mixed_state(300, seed)
                self.assertEqual(moves(rule, state), all_moves(rule, state))

    def test_a_great_disc_that_is_free_under_none_of_many(self):
        for rule in RULES:
            for first in range(3):
                for second in range(3):
                    state = [first] * 350 + [second] * 50
                    with self.subTest(rule=rule, first=first, second=second):
                        self.assertEqual(moves(rule, state), all_moves(rule, state))

    def test_kinds_and_order(self):
        for rule in RULES:
            for state in states(4):
                told = moves(rule, state)
                self.assertIs(type(told), list)
                self.assertEqual(told, sorted(told))
                for move in told:
                    self.assertIs(type(move), tuple)
                    self.assertEqual([type(part) for part in move], [int, int])


class Handed(unittest.TestCase):
    def test_the_state_is_not_changed(self):
        for rule in RULES:
            for state in states(4):
                before = list(state)
                moves(rule, state)
                self.assertEqual(state, before)

    def test_what_is_told_is_new(self):
        for rule in RULES:
            for state in states(3):
                before = list(state)
                told = moves(rule, state)
                told.clear()
                told.append((7, 7))
                self.assertEqual(state, before)
                self.assertEqual(moves(rule, state), all_moves(rule, before))


class Refusals(RefusalCase):
    def test_what_names_no_rule(self):
        texts = ["", "Free", "FREE", " free", "free ", "free\n", "fre", "freeline", "lines", "ring", "0", "-", "\u00e9",
                 "\ud800", "free\0"]
        lists = [[], ["free"], list(RULES), deep_list(), list_in_itself()]
        for place, rule in enumerate(other_kinds() + texts + lists + [0, 1, 2]):
            with self.subTest(place=place):
                self.assertRefused(BadRule, moves, rule, [0, 1])

    def test_what_is_no_state(self):
        for place, state in enumerate(other_kinds() + [0, 1, "", "free"]):
            with self.subTest(place=place):
                self.assertRefused(BadState, moves, "free", state)

    def test_lists_with_something_that_is_no_peg(self):
        for place, part in enumerate(other_kinds() + ["", "1", [], [0], deep_list(), list_in_itself()]):
            for state in ([part], [part, 0, 1], [0, part, 1], [0, 0, 0, part]):
                with self.subTest(place=place):
                    self.assertRefused(BadState, moves, "line", state)

    def test_a_list_within_itself(self):
        self.assertRefused(BadState, moves, "round", list_in_itself())

    def test_the_first_of_two_refusals(self):
        for rule in (None, "ring", [], Stubborn()):
            for state in (None, (0,), [3], [True], Stubborn()):
                self.assertRefused(BadRule, moves, rule, state)

    def test_nothing_is_changed_where_something_is_refused(self):
        state = [0, 1, 3, True]
        self.assertRefused(BadState, moves, "free", state)
        self.assertEqual(state, [0, 1, 3, True])
        self.assertIs(state[3], True)
        rule = ["free"]
        state = [2, 1]
        self.assertRefused(BadRule, moves, rule, state)
        self.assertEqual((rule, state), (["free"], [2, 1]))


if __name__ == "__main__":
    unittest.main()
