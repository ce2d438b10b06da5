"""The numbers that a refused call answers."""

NOT_OF_FORM = -1
OUT_OF_RANGE = -2
NO_MEMBER = -3
THERE_ALREADY = -4
AT_ODDS = -5
FULL = -6
TOO_FEW_MILES = -7
NO_AWARD = -8
WRONG_POOL = -9
TOO_EARLY = -10
