"""The bounds that hold throughout the package."""

MOST = 16
SMALL = 8
MOST_STORES = 3
MOST_HUNGER = 9
MOST_GIVEN = 60
LONGEST_NAME = 6
MOST_FIGURES = 9
