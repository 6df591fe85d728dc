"""The refusals: their numbers."""

OUT_OF_RANGE = -1
NO_SHEET = -2
GOING = -3
NOT_STANDING = -4
REEL_ELSEWHERE = -5
WITHOUT_REEL = -6
OUTSIDE = -7
