"""Two states: how far they are apart; and the numbers of the states along the rule line."""

from towerrow.counts import third_peg, tower_moves
from towerrow.errors import BadNumber, BadRule, Unlike
from towerrow.states import check_rule, check_state, is_number
from towerrow.ways import count_left, state_with_left


def apart(rule, one, other):
    check_rule(rule)
    if rule == "round":
        raise BadRule("nothing is told by the rule round")
    check_state(one)
    check_state(other)
    if len(one) != len(other):
        raise Unlike("other counts of discs")
    if rule == "line":
        # By the rule line all states stand in one row, and each move goes one place along it.
        return abs(count_number(one) - count_number(other))
    return apart_free(one, other)


def number_of(state):
    check_state(state)
    return count_number(state)


def state_of(discs, number):
    if not is_from_zero(discs) or not is_from_zero(number):
        raise BadNumber("no whole numbers from 0")
    last = tower_moves("line", discs, 0, 2)
    if number > last:
        raise BadNumber("no state of that number")
    return state_with_left("line", [0] * discs, 2, last - number)


def is_from_zero(value):
    return is_number(value) and value >= 0


def count_number(state):
    # Each move by the rule line can be taken back: as many lead here as lead to peg 0 again.
    return count_left("line", state, 0)


def apart_free(one, other):
    # The greatest discs need no move as long as they stand alike.
    discs = len(one)
    while discs > 0 and one[discs - 1] == other[discs - 1]:
        discs -= 1
    if discs == 0:
        return 0
    lesser = discs - 1
    start = one[lesser]
    goal = other[lesser]
    third = third_peg(start, goal)
    # The greatest disc that stands unlike goes straight or by the third peg, which may be shorter
    # for the lesser discs; never does it pay to move it more than twice.
    straight = meeting(one[:lesser], third, third, other[:lesser]) + 1
    by_third = meeting(one[:lesser], goal, start, other[:lesser]) + 2
    return min(straight, by_third)


def meeting(one, first, second, other):
    # From one to a tower on the first peg, as a tower to the second, and from there to the other;
    # the last part is counted backwards, as by the rule free each move can be taken back.
    between = tower_moves("free", len(one), first, second)
    return count_left("free", one, first) + between + count_left("free", other, second)
