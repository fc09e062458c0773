"""The least length of the rows that keep a wish, and one row that has it."""


def fullest_kinds(counts):
    most = max(counts)
    return [kind for kind, number in enumerate(counts) if number == most]


def frame_length(wish):
    counts = wish.counts()
    return (max(counts) - 1) * (wish.apart + 1) + len(fullest_kinds(counts))


def least_length(wish):
    total = wish.things()
    # With no things the frame may come out above nought and says nothing.
    if total == 0:
        return 0
    return max(total, frame_length(wish))


def force(wish):
    total = wish.things()
    if total == 0:
        return ("things", 0)
    frame = frame_length(wish)
    if total >= frame:
        return ("things", total)
    return ("frame", fullest_kinds(wish.counts()), frame)


def dealt_groups(counts):
    # Things are dealt round by round to one group less than the greatest
    # count. The fuller kinds come first, so that a kind with a thing in each
    # group starts at the first one and stands equally deep in all. A lesser
    # kind may go from the last group on to the first, one deeper there, but
    # then it leaves out a whole group in between, which makes up for it.
    rounds = max(counts) - 1
    groups = [[] for group in range(rounds)]
    dealt = 0
    for kind in sorted(range(len(counts)), key=lambda which: -counts[which]):
        for thing in range(min(counts[kind], rounds)):
            groups[dealt % rounds].append(kind)
            dealt += 1
    return groups


def shortest_row(wish):
    if wish.things() == 0:
        return []
    counts = wish.counts()
    row = []
    for group in dealt_groups(counts):
        # No group is narrower than this, so the same depth in two groups is
        # far enough apart. Where the things force the length, none is padded.
        empty = max(0, wish.apart + 1 - len(group))
        row.extend(group + [None] * empty)
    # The last things of the fullest kinds, in the order they have in a group.
    row.extend(fullest_kinds(counts))
    return row
