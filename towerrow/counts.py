"""How a lone disc goes from peg to peg, and how many moves, the fewest, bring a whole tower there.

By each rule the latter hangs only on how many discs there are and on how many moves a
lone disc would need: none, one (the tower goes near) or two (it goes far). A row holds,
by the moves of a lone disc, those of a tower.
"""

ROW_WITHOUT_DISCS = (0, 0, 0)


def lone_moves(rule, start, goal):
    if start == goal:
        return 0
    if rule == "free":
        return 1
    if rule == "line":
        return abs(goal - start)
    return (goal - start) % 3


def first_peg(rule, start, goal):
    # The peg to which a lone disc goes first; start and goal are two pegs.
    if rule == "round":
        return (start + 1) % 3
    if rule == "line" and abs(goal - start) == 2:
        return 1
    return goal


def third_peg(one, other):
    return 3 - one - other


def row_with_one_more(rule, row):
    # Ahead of each move of the greatest disc all others must stand on the third peg.
    near = row[1]
    far = row[2]
    if rule == "free":
        # No lone disc needs two moves: far is near.
        return (0, 2 * near + 1, 2 * near + 1)
    if rule == "line":
        return (0, far + 1 + near, far + 1 + far + 1 + far)
    return (0, far + 1 + far, far + 1 + near + 1 + far)


def row_with_one_fewer(rule, row):
    # row_with_one_more turned back, so that a walk from the greatest disc down need not keep
    # all rows: with very many discs they would fill the memory.
    near = row[1]
    far = row[2]
    if rule == "free":
        return (0, near // 2, near // 2)
    if rule == "line":
        return (0, near - 1 - far // 3, far // 3)
    return (0, far - 1 - near, near // 2)


def tower_row(rule, discs):
    row = ROW_WITHOUT_DISCS
    for lesser in range(discs):
        row = row_with_one_more(rule, row)
    return row


def tower_moves(rule, discs, start, goal):
    return tower_row(rule, discs)[lone_moves(rule, start, goal)]
