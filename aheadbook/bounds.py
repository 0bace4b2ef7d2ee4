"""The limits that the whole program keeps."""

MOST_HANDS = 8
MOST_LETTERS = 8
