"""The best way to all discs on one peg: how many moves are left, the next one, and where they lead.

A disc that is off its goal can move only when all lesser discs stand together on the third
peg, neither the one that it leaves nor the one to which it goes. So that peg is the goal of
the lesser discs, and the goals follow from the greatest disc down.
"""

from towerrow.counts import ROW_WITHOUT_DISCS, first_peg, lone_moves, row_with_one_fewer, row_with_one_more
from towerrow.counts import third_peg, tower_row
from towerrow.errors import BadNumber, BadPeg
from towerrow.states import check_rule, check_state, is_number, is_peg


def check_way(rule, state, peg):
    check_rule(rule)
    check_state(state)
    if not is_peg(peg):
        raise BadPeg("no peg")


def left(rule, state, peg):
    check_way(rule, state, peg)
    return count_left(rule, state, peg)


def next_move(rule, state, peg):
    check_way(rule, state, peg)
    goals = goals_of(rule, state, peg)
    # All discs below the least one that is off its goal stand where they let it go.
    for disc, own in enumerate(state):
        if own != goals[disc]:
            return (disc, first_peg(rule, own, goals[disc]))
    return ()


def behind(rule, state, peg, number):
    check_way(rule, state, peg)
    whole = count_left(rule, state, peg)
    if not is_number(number) or not 0 <= number <= whole:
        raise BadNumber("no whole number from 0 to how many moves are left")
    return state_with_left(rule, state, peg, whole - number)


def goal_of_lesser(rule, own, goal):
    if own == goal:
        return goal
    return third_peg(own, first_peg(rule, own, goal))


def goals_of(rule, state, peg):
    goals = []
    goal = peg
    for own in reversed(state):
        goals.append(goal)
        goal = goal_of_lesser(rule, own, goal)
    goals.reverse()
    return goals


def moves_from_first(rule, row, lesser_row, own, goal):
    # Of the way of a disc and all lesser ones, the moves from the disc's own first move on. They
    # are the same wherever the lesser discs stood, so the way of a tower tells them: the whole of
    # it without that of the lesser discs to their goal.
    aside = goal_of_lesser(rule, own, goal)
    return row[lone_moves(rule, own, goal)] - lesser_row[lone_moves(rule, own, aside)]


def count_left(rule, state, peg):
    total = 0
    lesser_row = ROW_WITHOUT_DISCS
    for own, goal in zip(state, goals_of(rule, state, peg)):
        row = row_with_one_more(rule, lesser_row)
        total += moves_from_first(rule, row, lesser_row, own, goal)
        lesser_row = row
    return total


def state_with_left(rule, state, peg, rest):
    # The state of the best way from which rest moves are left.
    pegs = []
    goal = peg
    # Where all lesser discs stood together when a greater one moved last, if one did.
    tower = None
    row = tower_row(rule, len(state))
    for own in reversed(state):
        lesser_row = row_with_one_fewer(rule, row)
        place = own if tower is None else tower
        needed = moves_from_first(rule, row, lesser_row, place, goal)
        # Fewer are left than the disc's move from here needs: that move is done.
        while rest < needed:
            tower = goal_of_lesser(rule, place, goal)
            place = first_peg(rule, place, goal)
            needed = moves_from_first(rule, row, lesser_row, place, goal)
        pegs.append(place)
        rest -= needed
        goal = goal_of_lesser(rule, place, goal)
        row = lesser_row
    pegs.reverse()
    return pegs
