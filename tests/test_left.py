"""towerrow.ways.left and next_move: points [1], [3] and [4]."""

import unittest

from plain import RULES, Stubborn, after, all_moves, fewest_to, mixed_state, no_pegs, no_rules, no_states, states
from refusals import RefusalCase
from towerrow.errors import BadPeg, BadRule, BadState
from towerrow.ways import left, next_move

BOTH = (left, next_move)
MANY = 300


def many_discs():
    return [[0] * MANY, [1] * MANY, [2] * MANY, mixed_state(MANY, 3), mixed_state(MANY + 101, 17),
            [0] + [2] * MANY, [2] * MANY + [0], [0, 1, 2] * 100]


class Left(unittest.TestCase):
    def test_every_state_of_few_discs_against_a_plain_search(self):
        for rule in RULES:
            for discs in range(7):
                for peg in range(3):
                    found = fewest_to(rule, discs, peg)
                    for state in states(discs):
                        with self.subTest(rule=rule, state=state, peg=peg):
                            self.assertEqual(left(rule, state, peg), found[tuple(state)])

    def test_none_just_where_all_discs_are_there(self):
        for rule in RULES:
            for peg in range(3):
                for state in states(5) + many_discs():
                    self.assertEqual(left(rule, state, peg) == 0, set(state) == {peg})

    def test_no_discs(self):
        for rule in RULES:
            for peg in range(3):
                self.assertEqual(left(rule, [], peg), 0)

    def test_by_hand(self):
        self.assertEqual([left("free", [0], peg) for peg in range(3)], [0, 1, 1])
        self.assertEqual([left("line", [0], peg) for peg in range(3)], [0, 1, 2])
        self.assertEqual([left("round", [0], peg) for peg in range(3)], [0, 1, 2])
        self.assertEqual([left("round", [2], peg) for peg in range(3)], [1, 2, 0])
        self.assertEqual(left("free", [0, 0, 0], 2), 7)
        self.assertEqual(left("line", [0, 0, 0], 2), 26)
        self.assertEqual(left("round", [0, 0, 0], 1), 15)
        self.assertEqual(left("round", [0, 0, 0], 2), 21)

    def test_numbers_as_great_as_anything(self):
        self.assertEqual(left("free", [0] * 700, 2), 2 ** 700 - 1)
        self.assertEqual(left("line", [0] * 700, 2), 3 ** 700 - 1)
        self.assertEqual(left("line", [0] * 700, 1), (3 ** 700 - 1) // 2)
        # A tower of an odd count begins with the least disc to its goal, one of an even count with the other peg.
        self.assertEqual(left("free", [2] + [0] * 698, 2), 2 ** 699 - 2)
        self.assertEqual(left("free", [1] + [0] * 699, 2), 2 ** 700 - 2)

    def test_kinds(self):
        for rule in RULES:
            for state in states(3) + many_discs():
                self.assertIs(type(left(rule, state, 1)), int)


class NextMove(unittest.TestCase):
    def test_every_state_of_few_discs_against_a_plain_search(self):
        for rule in RULES:
            for discs in range(7):
                for peg in range(3):
                    found = fewest_to(rule, discs, peg)
                    for state in states(discs):
                        count = found[tuple(state)]
                        best = [move for move in all_moves(rule, state) if found[tuple(after(state, *move))] < count]
                        with self.subTest(rule=rule, state=state, peg=peg):
                            self.assertEqual([next_move(rule, state, peg)], best if count else [()])

    def test_none_is_left(self):
        for rule in RULES:
            for peg in range(3):
                for discs in (0, 1, 2, 3, 400):
                    self.assertEqual(next_move(rule, [peg] * discs, peg), ())

    def test_many_discs_one_fewer_is_left_behind_it(self):
        for rule in RULES:
            for peg in range(3):
                for state in many_discs():
                    count = left(rule, state, peg)
                    for ignored in range(min(count, 12)):
                        move = next_move(rule, state, peg)
                        self.assertIn(move, all_moves(rule, state))
                        state = after(state, *move)
                        count -= 1
                        self.assertEqual(left(rule, state, peg), count)

    def test_many_discs_no_other_move_leaves_one_fewer(self):
        for rule in RULES:
            for peg in range(3):
                for state in many_discs():
                    best = next_move(rule, state, peg)
                    for move in all_moves(rule, state):
                        if move != best:
                            self.assertGreaterEqual(left(rule, after(state, *move), peg), left(rule, state, peg))

    def test_kinds(self):
        for rule in RULES:
            for peg in range(3):
                for state in states(4) + many_discs():
                    told = next_move(rule, state, peg)
                    self.assertIs(type(told), tuple)
                    self.assertIn(len(told), (0, 2))
                    for part in told:
                        self.assertIs(type(part), int)


class Handed(unittest.TestCase):
    def test_the_state_is_not_changed_nor_kept(self):
        for call in BOTH:
            for rule in RULES:
                for state in states(4):
                    before = list(state)
                    told = call(rule, state, 2)
                    self.assertEqual(state, before)
                    state.append(0)
                    self.assertEqual(call(rule, before, 2), told)


class Refusals(RefusalCase):
    def test_no_rule(self):
        for call in BOTH:
            for place, rule in enumerate(no_rules()):
                with self.subTest(call=call.__name__, place=place):
                    self.assertRefused(BadRule, call, rule, [0, 1], 2)

    def test_no_state(self):
        for call in BOTH:
            for place, state in enumerate(no_states()):
                with self.subTest(call=call.__name__, place=place):
                    self.assertRefused(BadState, call, RULES[place % 3], state, 2)

    def test_no_peg(self):
        for call in BOTH:
            for place, peg in enumerate(no_pegs()):
                for state in ([0, 1], [], [2, 2], [1]):
                    with self.subTest(call=call.__name__, place=place):
                        self.assertRefused(BadPeg, call, RULES[place % 3], state, peg)

    def test_the_first_of_the_refusals(self):
        for call in BOTH:
            for peg in (None, 3, True, Stubborn(), 0):
                for state in (None, (0,), [3], [True], Stubborn(), [0]):
                    for rule in (None, "ring", [], True, Stubborn()):
                        self.assertRefused(BadRule, call, rule, state, peg)
                for state in (None, (0,), [3], [True], Stubborn()):
                    self.assertRefused(BadState, call, "round", state, peg)

    def test_nothing_is_changed_where_something_is_refused(self):
        for call in BOTH:
            state = [0, 1, 2]
            self.assertRefused(BadRule, call, "ring", state, 0)
            self.assertRefused(BadPeg, call, "free", state, [1])
            self.assertEqual(state, [0, 1, 2])
            state = [0, 1, 3, True]
            self.assertRefused(BadState, call, "free", state, 0)
            self.assertEqual(state, [0, 1, 3, True])
            self.assertIs(state[3], True)


if __name__ == "__main__":
    unittest.main()
