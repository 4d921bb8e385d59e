"""The greatest numbers of things that the package takes."""

MOST_LETTERS = 3
MOST_STATES = 6
MOST_COLOUR = 6
MOST_WORD = 200
MOST_CHANGES = 5
MOST_DEMANDS = 5
