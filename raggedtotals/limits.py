"""The limits of schemas, conditions, cubes and questions, and the sign for everything."""

MAX_LEVELS = 8
MAX_LINKS = 14
MAX_MARKS = 4
MAX_RULES = 20
MAX_PARTS = 60
MAX_DEPTH = 6
MAX_SHAPES = 60
MAX_DIMENSIONS = 3
MAX_STORED = 10
MAX_WANTED = 4
MAX_BANNED = 12
EVERYTHING = "*"
