"""All rows of one length that keep a wish: how many, and which has which number."""

from keepaway.errors import NoRow, NoSuch, TooGreat
from keepaway.wishes import keeps

MOST_THINGS = 7
MOST_COUNTED_KINDS = 4
MOST_PLACES = 9


def check_reach(wish, length):
    if wish.things() > MOST_THINGS:
        raise TooGreat(f"rows of more than {MOST_THINGS} things are not counted")
    if len(wish.counts()) > MOST_COUNTED_KINDS:
        raise TooGreat(f"rows of more than {MOST_COUNTED_KINDS} kinds are not counted")
    if length > MOST_PLACES:
        raise TooGreat(f"rows of more than {MOST_PLACES} places are not counted")


# What is still to come of a row: how many places, how many things of each
# kind, and how many places each kind has to wait until it may stand again.
# Rows that began in different ways often go on alike, so a count of the ways
# to go on is kept by this and not by the row's beginning.
class Rest:
    def __init__(self, places, left, waits, apart):
        self.places = places
        self.left = left
        self.waits = waits
        self.apart = apart


def whole_row(wish, length):
    counts = wish.counts()
    return Rest(length, counts, [0] * len(counts), wish.apart)


def choices(rest):
    ready = [kind for kind, number in enumerate(rest.left) if number > 0 and rest.waits[kind] == 0]
    # The order of the choices is the order of the rows: the empty place last.
    return ready + [None]


def rest_behind(rest, choice):
    left = list(rest.left)
    waits = [max(0, wait - 1) for wait in rest.waits]
    if choice is not None:
        left[choice] -= 1
        # A kind of which none is left waits for nothing: so more rests are alike.
        waits[choice] = rest.apart if left[choice] > 0 else 0
    return Rest(rest.places - 1, left, waits, rest.apart)


def many_ways(rest, known):
    if sum(rest.left) > rest.places:
        return 0
    if rest.places == 0:
        return 1
    key = (rest.places, tuple(rest.left), tuple(rest.waits))
    if key not in known:
        known[key] = sum([many_ways(rest_behind(rest, choice), known) for choice in choices(rest)])
    return known[key]


def many_rows(wish, length):
    check_reach(wish, length)
    return many_ways(whole_row(wish, length), {})


def first_row(wish, length):
    if many_rows(wish, length) == 0:
        return None
    return row_at(wish, length, 0)


def ways_ahead(rest, found, known):
    ahead = 0
    for choice in choices(rest):
        if choice == found:
            break
        ahead += many_ways(rest_behind(rest, choice), known)
    return ahead


def row_number(wish, row):
    check_reach(wish, len(row))
    if not keeps(wish, row):
        raise NoRow("the row does not keep the wish")
    known = {}
    rest = whole_row(wish, len(row))
    number = 0
    for found in row:
        number += ways_ahead(rest, found, known)
        rest = rest_behind(rest, found)
    return number


def choice_at(rest, number, known):
    # The last choice with no more rows ahead of it: one by which no row goes
    # on has as many ahead as the next one, and is passed over so.
    reached = [choice for choice in choices(rest) if ways_ahead(rest, choice, known) <= number]
    return reached[-1]


def row_at(wish, length, number):
    check_reach(wish, length)
    known = {}
    rest = whole_row(wish, length)
    if not 0 <= number < many_ways(rest, known):
        raise NoSuch("no row that keeps the wish has this number")
    row = []
    among = number
    while len(row) < length:
        choice = choice_at(rest, among, known)
        among -= ways_ahead(rest, choice, known)
        row.append(choice)
        rest = rest_behind(rest, choice)
    return row
