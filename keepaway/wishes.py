"""Wishes: how many things of each kind, and how far alike ones stay apart."""

from keepaway.errors import NoWish

MOST_KINDS = 6
MOST_ALIKE = 40
MOST_APART = 8


# A refused number is not written into the refusal: Python writes no number of
# some thousand digits, and its own error would come instead.
def check_counts(counts):
    if not 1 <= len(counts) <= MOST_KINDS:
        raise NoWish(f"a wish has 1 to {MOST_KINDS} kinds")
    for number in counts:
        if not 0 <= number <= MOST_ALIKE:
            raise NoWish(f"a count is from 0 to {MOST_ALIKE}")


def check_apart(apart):
    if not 0 <= apart <= MOST_APART:
        raise NoWish(f"things stay 0 to {MOST_APART} places apart")


class Wish:
    def __init__(self, counts, apart):
        check_counts(counts)
        check_apart(apart)
        # A copy, so that the asker may change the list later.
        self.amounts = list(counts)
        self.apart = apart

    def counts(self):
        return list(self.amounts)

    def things(self):
        return sum(self.amounts)


def tally(row):
    found = {}
    for kind in row:
        if kind is not None:
            found[kind] = found.get(kind, 0) + 1
    return found


def wanted(wish):
    # A kind without things is left out, as a tally of a row has none of it.
    told = {}
    for kind, number in enumerate(wish.counts()):
        if number > 0:
            told[kind] = number
    return told


def keeps(wish, row):
    return tally(row) == wanted(wish) and clash(row, wish.apart) is None


def clash(row, apart):
    # The nearest one alike ahead is enough to look at: where any one ahead
    # is too near, that one is, and it has the greatest first place.
    latest = {}
    for place, kind in enumerate(row):
        if kind is None:
            continue
        if kind in latest and place - latest[kind] - 1 < apart:
            return (latest[kind], place)
        latest[kind] = place
    return None
