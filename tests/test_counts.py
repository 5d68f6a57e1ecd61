import unittest

from plain import RULES, WAYS, fewest, states
from towerrow.counts import first_peg, lone_moves, row_with_one_fewer, row_with_one_more, third_peg, tower_moves
from towerrow.counts import ROW_WITHOUT_DISCS, tower_row


class Towers(unittest.TestCase):
    def test_few_discs_against_a_walk_through_all_states(self):
        for rule in RULES:
            for discs in range(7):
                for start in range(3):
                    found = fewest(rule, [start] * discs)
                    self.assertEqual(len(found), len(states(discs)))
                    for goal in range(3):
                        with self.subTest(rule=rule, discs=discs, start=start, goal=goal):
                            self.assertEqual(tower_moves(rule, discs, start, goal), found[(goal,) * discs])

    def test_no_discs(self):
        for rule in RULES:
            for start in range(3):
                for goal in range(3):
                    self.assertEqual(tower_moves(rule, 0, start, goal), 0)

    def test_a_lone_disc(self):
        for rule in RULES:
            for start in range(3):
                found = fewest(rule, [start])
                for goal in range(3):
                    self.assertEqual(lone_moves(rule, start, goal), found[(goal,)])

    def test_many_discs(self):
        self.assertEqual(tower_moves("free", 1000, 0, 2), 2 ** 1000 - 1)
        self.assertEqual(tower_moves("line", 1000, 0, 2), 3 ** 1000 - 1)
        self.assertEqual(tower_moves("line", 1000, 2, 1), (3 ** 1000 - 1) // 2)
        # The known turn of the cyclic towers: near is far of one disc fewer, twice, and one.
        self.assertEqual(tower_moves("round", 1000, 0, 1), 2 * tower_moves("round", 999, 0, 2) + 1)
        self.assertEqual(tower_moves("round", 1000, 2, 2), 0)

    def test_known_cyclic_counts(self):
        self.assertEqual([tower_moves("round", discs, 1, 2) for discs in range(8)], [0, 1, 5, 15, 43, 119, 327, 895])
        self.assertEqual([tower_moves("round", discs, 1, 0) for discs in range(8)], [0, 2, 7, 21, 59, 163, 447, 1223])

    def test_rows(self):
        self.assertEqual([tower_row("line", discs) for discs in range(5)],
                         [(0, 0, 0), (0, 1, 2), (0, 4, 8), (0, 13, 26), (0, 40, 80)])

    def test_rows_up_and_down(self):
        for rule in RULES:
            row = ROW_WITHOUT_DISCS
            self.assertEqual(row, tower_row(rule, 0))
            for discs in range(1, 500):
                wider = row_with_one_more(rule, row)
                self.assertEqual(row_with_one_fewer(rule, wider), row)
                row = wider
            self.assertEqual(row, tower_row(rule, 499))


class Pegs(unittest.TestCase):
    def test_the_first_peg_of_a_lone_disc(self):
        for rule in RULES:
            for start in range(3):
                for goal in range(3):
                    if start != goal:
                        peg = first_peg(rule, start, goal)
                        self.assertIn((start, peg), WAYS[rule])
                        self.assertEqual(lone_moves(rule, peg, goal), lone_moves(rule, start, goal) - 1)

    def test_the_third_peg(self):
        for one, other, third in ((0, 1, 2), (0, 2, 1), (1, 2, 0)):
            self.assertEqual(third_peg(one, other), third)
            self.assertEqual(third_peg(other, one), third)


if __name__ == "__main__":
    unittest.main()
