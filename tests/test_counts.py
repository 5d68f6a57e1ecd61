import unittest

from plain import RULES, after, all_moves, states
from towerrow.counts import lone_moves, tower_moves, tower_rows


def fewest(rule, start):
    """How many moves, the fewest, lead from a state to each other, by a walk through all of them."""
    found = {tuple(start): 0}
    edge = [start]
    while edge:
        beyond = []
        for state in edge:
            for disc, peg in all_moves(rule, state):
                other = after(state, disc, peg)
                if tuple(other) not in found:
                    found[tuple(other)] = found[tuple(state)] + 1
                    beyond.append(other)
        edge = beyond
    return found


class Towers(unittest.TestCase):
    def test_few_discs_against_a_walk_through_all_states(self):
        for rule in RULES:
            for discs in range(7):
                for start in range(3):
                    found = fewest(rule, [start] * discs)
                    self.assertEqual(len(found), len(states(discs)))
                    for goal in range(3):
                        with self.subTest(rule=rule, discs=discs, start=start, goal=goal):
                            self.assertEqual(tower_moves(rule, discs, start, goal), found[(goal,) * discs])

    def test_no_discs(self):
        for rule in RULES:
            for start in range(3):
                for goal in range(3):
                    self.assertEqual(tower_moves(rule, 0, start, goal), 0)

    def test_a_lone_disc(self):
        for rule in RULES:
            for start in range(3):
                found = fewest(rule, [start])
                for goal in range(3):
                    self.assertEqual(lone_moves(rule, start, goal), found[(goal,)])

    def test_many_discs(self):
        self.assertEqual(tower_moves("free", 1000, 0, 2), 2 ** 1000 - 1)
        self.assertEqual(tower_moves("line", 1000, 0, 2), 3 ** 1000 - 1)
        self.assertEqual(tower_moves("line", 1000, 2, 1), (3 ** 1000 - 1) // 2)
        # The known turn of the cyclic towers: near is far of one disc fewer, twice, and one.
        self.assertEqual(tower_moves("round", 1000, 0, 1), 2 * tower_moves("round", 999, 0, 2) + 1)
        self.assertEqual(tower_moves("round", 1000, 2, 2), 0)

    def test_known_cyclic_counts(self):
        self.assertEqual([tower_moves("round", discs, 1, 2) for discs in range(8)], [0, 1, 5, 15, 43, 119, 327, 895])
        self.assertEqual([tower_moves("round", discs, 1, 0) for discs in range(8)], [0, 2, 7, 21, 59, 163, 447, 1223])

    def test_rows_are_one_more_than_the_discs_and_new(self):
        rows = tower_rows("line", 4)
        self.assertEqual(rows, [(0, 0, 0), (0, 1, 2), (0, 4, 8), (0, 13, 26), (0, 40, 80)])
        rows.clear()
        self.assertEqual(len(tower_rows("line", 4)), 5)


if __name__ == "__main__":
    unittest.main()
