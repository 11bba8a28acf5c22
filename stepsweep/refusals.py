"""The numbers that stand first in an answer."""

DONE = 0
RANGE = -1
ABSENT = -2
BUSY = -3
THERE = -4
LOCKED = -5
STRAY = -6
FULL = -7
SHAPE = -8
