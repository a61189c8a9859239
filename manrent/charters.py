"""Names, the seven kinds of charters, and the order in which charters are judged."""

from manrent.errors import NoForm

# The crown, as a man and as an estate.
CROWN = ""

LONGEST_NAME = 8

# What stands behind each first word. The order of the words is told, too:
# charters of one day are judged by it.
FORMS = {
    "heir": ("day", "name", "name"),
    "grant": ("day", "name or crown", "name", "name", "acres", "service"),
    "part": ("day", "name", "name", "name", "acres"),
    "convey": ("day", "name", "name"),
    "liege": ("day", "name", "name or crown"),
    "surrender": ("day", "name"),
    "death": ("day", "name"),
}

# The least and the greatest number of each sort.
BOUNDS = {
    "day": (0, 9999),
    "acres": (1, 9999),
    "service": (0, 9999),
    # What an acre bears a day.
    "bears": (0, 99),
    # Where a stretch of days starts or ends.
    "edge": (0, 10000),
    # A number that is asked for, and one that a row may have.
    "number": (0, 999999),
    "entry": (1, 999999),
}

# Rows that name two men who must not be the same one.
OF_TWO_MEN = ("heir", "liege")


def is_name(text):
    """True where the text is a name of a man or an estate, else False."""
    for sign in text:
        if sign < "a" or sign > "z":
            return False
    return 1 <= len(text) <= LONGEST_NAME


def check_row(row):
    """None where the row is a well-made charter, else refused."""
    if not is_well_made(row):
        raise NoForm("the row is no well-made charter")


def is_well_made(row):
    """True where the row is one of the seven kinds and each part is as it is called."""
    if row[0] not in FORMS:
        return False
    form = FORMS[row[0]]
    pieces = row[1:]
    if len(pieces) != len(form):
        return False
    for sort, piece in zip(form, pieces):
        if not fits(sort, piece):
            return False
    return row[0] not in OF_TWO_MEN or row[2] != row[3]


def fits(sort, piece):
    """True where a piece, of a row or of what is told of a land, is as its sort asks."""
    if sort in BOUNDS:
        least, greatest = BOUNDS[sort]
        return least <= piece <= greatest
    if sort == "name or crown" and piece == CROWN:
        return True
    return is_name(piece)


def judged_order(rows):
    """The rows, well made, in the order in which they are judged: a new list."""
    return sorted(rows, key=place_in_order)


def place_in_order(row):
    """What rows are sorted by: the day, the kind, the row itself."""
    return (row[1], list(FORMS).index(row[0]), row)
