"""States as texts: a figure for the peg of each disc, the greatest first."""

from towerrow.errors import BadText
from towerrow.states import check_state

FIGURES = "012"
NO_DISCS = "-"


def written(state):
    check_state(state)
    if len(state) == 0:
        return NO_DISCS
    return "".join([FIGURES[peg] for peg in reversed(state)])


def read(text):
    if not isinstance(text, str):
        raise BadText("no text")
    if text == NO_DISCS:
        return []
    if text == "" or not all([sign in FIGURES for sign in text]):
        raise BadText("no state is written so")
    return [FIGURES.index(sign) for sign in reversed(text)]
