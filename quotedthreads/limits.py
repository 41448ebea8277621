"""The signs, and the limits of programs, books, exchanges and claims."""

SIGNS = "#*+:=>|"
MOST_PEOPLE = 4
MOST_PROGRAMS = 4
MOST_CASES = 5
MOST_ANSWERS = 8
MOST_SIGNS = 4
MOST_EXCHANGES = 6
MOST_COUNT = 20
