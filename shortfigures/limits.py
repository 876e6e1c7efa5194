"""The limits within which the program is used."""

MOST_UNITS = 6
MOST_DECIMALS = 3
MOST_LEAST = 1000
MOST_NUMBER = 10 ** 18
MOST_DIGITS = 24
MOST_SIGHTS = 4
MOST_ROWS = 12
