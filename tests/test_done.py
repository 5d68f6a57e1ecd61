"""towerrow.states.done: points [1] and [2]."""

import unittest

from plain import RULES, after, can, deep_list, list_in_itself, mixed_state, other_kinds, states, Stubborn, walk
from refusals import RefusalCase
from towerrow.errors import BadMove, BadRule, BadState
from towerrow.states import done


class Answers(unittest.TestCase):
    def test_no_moves(self):
        for rule in RULES:
            for state in states(4) + [[], mixed_state(300, 5)]:
                told = done(rule, state, [])
                self.assertEqual(told, state)
                self.assertIsNot(told, state)

    def test_one_move_from_every_state_of_few_discs(self):
        for rule in RULES:
            for state in states(1) + states(2) + states(3) + states(4):
                for disc in range(len(state)):
                    for peg in range(3):
                        if can(rule, state, disc, peg):
                            self.assertEqual(done(rule, state, [(disc, peg)]), after(state, disc, peg))

    def test_walks_step_by_step(self):
        for rule in RULES:
            for discs in (1, 2, 3, 5, 8):
                start = mixed_state(discs, discs + 3)
                steps = walk(rule, start, 150)
                path = [move for move, state in steps]
                last = start
                for count, (move, state) in enumerate(steps):
                    self.assertEqual(done(rule, last, [move]), state)
                    self.assertEqual(done(rule, start, path[:count + 1]), state)
                    last = state

    def test_walks_with_many_discs(self):
        for rule in RULES:
            for start in ([0] * 300, [2] * 300, mixed_state(300, 11)):
                steps = walk(rule, start, 60)
                self.assertEqual(done(rule, start, [move for move, state in steps]), steps[-1][1])

    def test_a_long_list_of_moves(self):
        start = [0] * 400
        self.assertEqual(done("round", start, [(0, 1), (0, 2), (0, 0)] * 30000), start)
        self.assertEqual(done("free", start, [(0, 1), (1, 2), (0, 2), (0, 1), (1, 0), (0, 0)] * 10000), start)

    def test_best_ways_by_hand(self):
        self.assertEqual(done("free", [0, 0], [(0, 1), (1, 2), (0, 2)]), [2, 2])
        self.assertEqual(done("line", [0, 0], [(0, 1), (0, 2), (1, 1), (0, 1), (0, 0), (1, 2), (0, 1), (0, 2)]), [2, 2])
        self.assertEqual(done("round", [0, 0], [(0, 1), (0, 2), (1, 1), (0, 0), (0, 1)]), [1, 1])

    def test_kinds(self):
        told = done("free", [0, 1, 2], [(0, 1), (0, 2)])
        self.assertIs(type(told), list)
        self.assertEqual([type(peg) for peg in told], [int, int, int])


class Handed(RefusalCase):
    def test_nothing_handed_in_is_changed(self):
        for rule in RULES:
            start = mixed_state(5, 9)
            path = [move for move, state in walk(rule, start, 40)]
            state = list(start)
            some = list(path)
            done(rule, state, some)
            self.assertEqual((state, some), (start, path))

    def test_nothing_is_changed_where_a_move_is_refused(self):
        state = [0, 0, 0]
        some = [(0, 1), (1, 2), (2, 2)]
        self.assertRefused(BadMove, done, "free", state, some)
        self.assertEqual((state, some), ([0, 0, 0], [(0, 1), (1, 2), (2, 2)]))

    def test_nothing_is_changed_where_the_rest_is_refused(self):
        state = [0, 5]
        some = [(0, 1)]
        self.assertRefused(BadState, done, "free", state, some)
        self.assertEqual((state, some), ([0, 5], [(0, 1)]))
        state = [0, 1]
        self.assertRefused(BadRule, done, None, state, some)
        self.assertEqual((state, some), ([0, 1], [(0, 1)]))

    def test_a_told_state_may_be_changed(self):
        for some in ([], [(0, 1)]):
            state = [0, 0]
            told = done("free", state, some)
            expected = list(told)
            told[1] = 2
            told.append(1)
            self.assertEqual(state, [0, 0])
            self.assertEqual(done("free", state, some), expected)

    def test_a_state_may_be_changed_behind_the_call(self):
        state = [0, 0]
        some = [(0, 1)]
        told = done("free", state, some)
        state[1] = 2
        some.append((0, 2))
        self.assertEqual(told, [1, 0])


class BadMoves(RefusalCase):
    def test_every_pair_at_every_state_of_few_discs(self):
        for rule in RULES:
            for state in states(0) + states(1) + states(2) + states(3) + states(4):
                for disc in range(-len(state) - 2, len(state) + 3):
                    for peg in range(-4, 5):
                        if not can(rule, state, disc, peg):
                            with self.subTest(rule=rule, state=state, disc=disc, peg=peg):
                                self.assertRefused(BadMove, done, rule, state, [(disc, peg)])

    def test_to_its_own_peg(self):
        for rule in RULES:
            for peg in range(3):
                self.assertRefused(BadMove, done, rule, [peg], [(0, peg)])
                self.assertRefused(BadMove, done, rule, [peg] * 300, [(0, peg)])

    def test_with_a_lesser_disc_on_its_own_peg(self):
        for rule in RULES:
            self.assertRefused(BadMove, done, rule, [0, 0], [(1, 1)])
            self.assertRefused(BadMove, done, rule, [2, 0, 0], [(2, 1)])
            self.assertRefused(BadMove, done, rule, [0] * 300, [(299, 1)])

    def test_with_a_lesser_disc_on_the_other_peg(self):
        for rule in RULES:
            self.assertRefused(BadMove, done, rule, [1, 0], [(1, 1)])
            self.assertRefused(BadMove, done, rule, [1] * 299 + [0], [(299, 1)])
        self.assertEqual(done("free", [1] * 299 + [0], [(299, 2)]), [1] * 299 + [2])

    def test_against_the_rule(self):
        for start, goal in ((0, 2), (2, 0)):
            self.assertRefused(BadMove, done, "line", [start], [(0, goal)])
        for start, goal in ((0, 2), (2, 1), (1, 0)):
            self.assertRefused(BadMove, done, "round", [start], [(0, goal)])

    def test_a_disc_that_is_not_there(self):
        for rule in RULES:
            for disc in (-1, -2, 2, 3, 10 ** 5000, -(10 ** 5000)):
                self.assertRefused(BadMove, done, rule, [0, 0], [(disc, 1)])
            self.assertRefused(BadMove, done, rule, [], [(0, 1)])

    def test_to_no_peg(self):
        for rule in RULES:
            for peg in (-1, -2, -3, 3, 4, 10 ** 5000, -(10 ** 5000)):
                self.assertRefused(BadMove, done, rule, [0, 0], [(0, peg)])

    def test_a_move_that_can_be_done_in_another_turn_only(self):
        self.assertEqual(done("free", [0, 0], [(0, 1), (1, 2)]), [1, 2])
        self.assertRefused(BadMove, done, "free", [0, 0], [(1, 2), (0, 1)])
        self.assertRefused(BadMove, done, "free", [0, 0], [(0, 2), (1, 2)])
        self.assertRefused(BadMove, done, "line", [0], [(0, 2), (0, 1)])
        self.assertRefused(BadMove, done, "line", [0], [(0, 1), (0, 1)])
        self.assertRefused(BadMove, done, "round", [0], [(0, 1), (0, 0), (0, 2)])

    def test_each_turn_of_a_walk_barred(self):
        for rule in RULES:
            start = mixed_state(4, 2)
            steps = walk(rule, start, 30)
            path = [move for move, state in steps]
            for count, (move, state) in enumerate(steps):
                self.assertRefused(BadMove, done, rule, start, path[:count + 1] + [move] + path[count + 1:])

    def test_what_is_no_list(self):
        for place, some in enumerate(other_kinds() + [0, 1, "", "free", ((0, 1),), {(0, 1): 1}, iter([(0, 1)])]):
            with self.subTest(place=place):
                self.assertRefused(BadMove, done, "free", [0, 0], some)
                self.assertRefused(BadMove, done, "free", [], some)

    def test_lists_with_something_that_is_no_pair(self):
        parts = [kind for kind in other_kinds() if not (isinstance(kind, tuple) and kind == (0, 1))]
        parts += [0, 1, "", "01", [], [0, 1], (0, 1, 1), ((0, 1),), deep_list(), list_in_itself()]
        for place, part in enumerate(parts):
            for some in ([part], [part, (0, 1)], [(0, 1), part], [(0, 1), (0, 2), part]):
                with self.subTest(place=place):
                    self.assertRefused(BadMove, done, "free", [0, 0], some)

    def test_a_list_within_itself(self):
        self.assertRefused(BadMove, done, "free", [0, 0], list_in_itself())

    def test_pairs_with_something_that_is_no_number(self):
        parts = [kind for kind in other_kinds() if not isinstance(kind, int) or isinstance(kind, bool)]
        for place, part in enumerate(parts + ["", "1", [], [0], deep_list(), list_in_itself()]):
            with self.subTest(place=place):
                self.assertRefused(BadMove, done, "free", [0, 2], [(part, 1)])
                self.assertRefused(BadMove, done, "free", [0, 2], [(0, part)])
                self.assertRefused(BadMove, done, "free", [0, 2], [(part, part)])

    def test_true_and_false_are_no_numbers(self):
        self.assertEqual(done("free", [0, 2], [(0, 1)]), [1, 2])
        self.assertRefused(BadMove, done, "free", [0, 2], [(False, 1)])
        self.assertRefused(BadMove, done, "free", [0, 2], [(0, True)])
        self.assertEqual(done("free", [0, 2], [(1, 1)]), [0, 1])
        self.assertRefused(BadMove, done, "free", [0, 2], [(True, 1)])
        self.assertEqual(done("free", [1], [(0, 0)]), [0])
        self.assertRefused(BadMove, done, "free", [1], [(0, False)])


class OtherRefusals(RefusalCase):
    def test_what_names_no_rule(self):
        for place, rule in enumerate(other_kinds() + ["", "Free", "ring", "line ", [], ["line"], deep_list(), 0]):
            with self.subTest(place=place):
                self.assertRefused(BadRule, done, rule, [0], [])

    def test_what_is_no_state(self):
        for place, state in enumerate(other_kinds() + [0, 1, "", "free", [3], [-1], [True], [False], ["0"], [[0]],
                                                       [0, None], deep_list(), list_in_itself()]):
            with self.subTest(place=place):
                self.assertRefused(BadState, done, "round", state, [])

    def test_the_first_of_the_refusals(self):
        for rule in (None, "ring", Stubborn()):
            for state in ([0], None, [3], [True], Stubborn()):
                for some in ([], None, [(0, 0)], Stubborn()):
                    self.assertRefused(BadRule, done, rule, state, some)
        for state in (None, [3], [True], Stubborn()):
            for some in ([], None, [(0, 0)], Stubborn()):
                self.assertRefused(BadState, done, "line", state, some)


if __name__ == "__main__":
    unittest.main()
