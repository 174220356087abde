"""The limits of a machine."""

MOST = 199
ROOM = 8
LETTERS = 4
CELLS = 4
