"""Towerrow: discs on three pegs, by three rules."""
