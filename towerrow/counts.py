"""How many moves, the fewest, bring a whole tower from one peg to another.

By each rule this hangs only on how many discs there are and on how many moves a
lone disc would need: none, one (the tower goes near) or two (it goes far).
"""


def lone_moves(rule, start, goal):
    if start == goal:
        return 0
    if rule == "free":
        return 1
    if rule == "line":
        return abs(goal - start)
    return (goal - start) % 3


def tower_rows(rule, discs):
    # Row n is of a tower of n discs; in it, by lone_moves, stand the tower's own moves.
    rows = [(0, 0, 0)]
    for lesser in range(discs):
        rows.append(row_with_one_more(rule, rows[lesser]))
    return rows


def row_with_one_more(rule, row):
    # Ahead of each move of the greatest disc all others must stand on the third peg.
    near = row[1]
    far = row[2]
    if rule == "free":
        # No lone disc needs two moves: far is near.
        return (0, 2 * near + 1, 2 * near + 1)
    if rule == "line":
        return (0, far + 1 + near, far + 1 + far + 1 + far)
    return (0, far + 1 + far, far + 1 + near + 1 + far)


def tower_moves(rule, discs, start, goal):
    return tower_rows(rule, discs)[discs][lone_moves(rule, start, goal)]
