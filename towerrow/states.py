"""States and moves: which moves can be done, and the state behind some of them.

A refusal's words never show what was handed in: not every value can be shown.
"""

from towerrow.errors import BadMove, BadRule, BadState

# For each rule: the pegs, rising, to which a disc may go from peg 0, from 1 and from 2.
GOALS = {
    "free": ((1, 2), (0, 2), (0, 1)),
    "line": ((1,), (0, 2), (1,)),
    "round": ((1,), (2,), (0,)),
}


def is_number(value):
    # Python takes True and False for whole numbers; here they are none.
    return isinstance(value, int) and not isinstance(value, bool)


def is_peg(value):
    return is_number(value) and 0 <= value <= 2


def check_rule(rule):
    if not isinstance(rule, str) or rule not in GOALS:
        raise BadRule("no text that names a rule")


def check_state(state):
    if not isinstance(state, list) or not all([is_peg(value) for value in state]):
        raise BadState("no list of the peg of each disc")


def moves(rule, state):
    check_rule(rule)
    check_state(state)
    found = []
    # The pegs of lesser discs: they bar a disc from leaving one and from coming to one.
    barred = []
    for disc, peg in enumerate(state):
        if peg not in barred:
            found.extend([(disc, goal) for goal in GOALS[rule][peg] if goal not in barred])
            barred.append(peg)
    return found


def done(rule, state, some):
    check_rule(rule)
    check_state(state)
    if not isinstance(some, list):
        raise BadMove("no list of moves")
    pegs = list(state)
    stacks = stacks_of(pegs)
    for move in some:
        if not can_be_done(rule, pegs, stacks, move):
            raise BadMove("no move that can be done in its turn")
        disc = move[0]
        goal = move[1]
        stacks[pegs[disc]].pop()
        stacks[goal].append(disc)
        pegs[disc] = goal
    return pegs


def stacks_of(state):
    stacks = [[], [], []]
    # The greatest disc first, so that each stack ends with the disc on top.
    for disc in range(len(state) - 1, -1, -1):
        stacks[state[disc]].append(disc)
    return stacks


def can_be_done(rule, pegs, stacks, move):
    if not is_pair_of_numbers(move) or not 0 <= move[0] < len(pegs):
        return False
    disc = move[0]
    goal = move[1]
    own = pegs[disc]
    if goal not in GOALS[rule][own]:
        return False
    # Only the tops need a look, so that a long list of moves costs little with many discs.
    return stacks[own][-1] == disc and (len(stacks[goal]) == 0 or stacks[goal][-1] > disc)


def is_pair_of_numbers(value):
    return isinstance(value, tuple) and len(value) == 2 and is_number(value[0]) and is_number(value[1])
