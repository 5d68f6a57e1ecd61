"""A plain look at points [1] and [2], and plain searches over all states.

They are written apart from the program, for the tests to hold it against.
"""

import itertools

RULES = ("free", "line", "round")

WAYS = {
    "free": {(0, 1), (0, 2), (1, 0), (1, 2), (2, 0), (2, 1)},
    "line": {(0, 1), (1, 0), (1, 2), (2, 1)},
    "round": {(0, 1), (1, 2), (2, 0)},
}


class Stubborn:
    """A value that can't be compared, hashed, measured, walked or shown."""

    def refuse(self, *ignored):
        raise RuntimeError("stubborn")

    __eq__ = __ne__ = __lt__ = __le__ = __gt__ = __ge__ = refuse
    __hash__ = __len__ = __iter__ = __bool__ = __index__ = __int__ = refuse
    __getitem__ = __contains__ = __repr__ = __str__ = refuse


def deep_list():
    deep = []
    for ignored in range(100000):
        deep = [deep]
    return deep


def list_in_itself():
    knot = []
    knot.append(knot)
    return knot


def other_kinds():
    """Values of many kinds that are neither a rule, nor a state, nor a list of moves."""
    return [
        None, True, False, 3, -1, 10 ** 5000, -(10 ** 5000), 0.0, 1.0, float("nan"), 1j, "0", "012", b"", b"free",
        bytearray(b"\0"), (), (0,), (0, 1), (0, 1, 2), {}, {0: 1}, {"free": 1}, {0, 1}, frozenset(), range(3),
        iter([]), (peg for peg in [0]), object(), Stubborn(), int, list, str, len, lambda: 0, NotImplemented, ...,
        ValueError("free"),
    ]


def states(discs):
    return [list(pegs) for pegs in itertools.product(range(3), repeat=discs)]


def can(rule, state, disc, peg):
    if disc not in range(len(state)) or peg not in range(3):
        return False
    if (state[disc], peg) not in WAYS[rule]:
        return False
    return not any(state[lesser] in (state[disc], peg) for lesser in range(disc))


def all_moves(rule, state):
    return [(disc, peg) for disc in range(len(state)) for peg in range(3) if can(rule, state, disc, peg)]


def after(state, disc, peg):
    return state[:disc] + [peg] + state[disc + 1:]


def walk(rule, state, steps):
    """A fixed walk: pairs of the move and the state behind it."""
    steps_done = []
    mixed = 1
    for ignored in range(steps):
        mixed = (mixed * 48271) % 2147483647
        choice = all_moves(rule, state)
        move = choice[mixed % len(choice)]
        state = after(state, *move)
        steps_done.append((move, state))
    return steps_done


def mixed_state(discs, seed):
    state = []
    for ignored in range(discs):
        seed = (seed * 48271) % 2147483647
        state.append(seed // 7 % 3)
    return state


def fewest(rule, start):
    """How many moves, the fewest, lead from a state to each other, by a walk through all of them."""
    found = {tuple(start): 0}
    edge = [start]
    while edge:
        beyond = []
        for state in edge:
            for disc, peg in all_moves(rule, state):
                other = after(state, disc, peg)
                if tuple(other) not in found:
                    found[tuple(other)] = found[tuple(state)] + 1
                    beyond.append(other)
        edge = beyond
    return found


def fewest_to(rule, discs, peg):
    """How many moves, the fewest, bring all discs to a peg, from each state: a walk back from there."""
    ahead = {tuple(state): [] for state in states(discs)}
    for state in states(discs):
        for disc, goal in all_moves(rule, state):
            ahead[tuple(after(state, disc, goal))].append(tuple(state))
    last = (peg,) * discs
    found = {last: 0}
    edge = [last]
    while edge:
        beyond = []
        for state in edge:
            for other in ahead[state]:
                if other not in found:
                    found[other] = found[state] + 1
                    beyond.append(other)
        edge = beyond
    return found


def no_numbers():
    """Values of many kinds, none of which is a whole number."""
    kinds = [kind for kind in other_kinds() if isinstance(kind, bool) or not isinstance(kind, int)]
    return kinds + ["", "1", [], [0], deep_list(), list_in_itself()]


def no_pegs():
    return no_numbers() + [3, 4, -1, -2, -3, 10 ** 5000, -(10 ** 5000)]


def no_rules():
    texts = ["", "Free", "LINE", " free", "free ", "free\n", "line\0", "fre", "lines", "freeline", "ring", "0", "-"]
    return other_kinds() + texts + [[], ["free"], list(RULES), deep_list(), list_in_itself(), 0, 1, 2]


def no_states():
    """What is no state: no list, or one with a part that is no peg, at the first, a middle and the last place."""
    kinds = other_kinds() + [0, 1, "", "free", "0", ((0,),), list_in_itself()]
    for part in no_pegs():
        kinds += [[part], [part, 0, 1], [0, part, 1], [0, 1, part], [0] * 300 + [part]]
    return kinds
