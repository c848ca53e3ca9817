"""Spans: a low and a high place for each thing, or what forbids them.

Tables are those of keenscale.sayings.
"""

from keenscale.sayings import round_in, table_of


def beaten_by_one_alone(table, one, other):
    return [thing for thing in range(len(table)) if table[one][thing] and not table[other][thing]]


def two_pairs_in(table):
    # The two pairs may change places, and a thing makes none with itself: so c below a is enough.
    for a in range(len(table)):
        for c in range(a):
            beaten_by_a = beaten_by_one_alone(table, a, c)
            beaten_by_c = beaten_by_one_alone(table, c, a)
            if beaten_by_a and beaten_by_c:
                return (a, beaten_by_a[0], c, beaten_by_c[0])
    return None


def two_pairs(many, pairs):
    return two_pairs_in(table_of(many, pairs))


def spans_in(table):
    # Without two pairs beside one another, of any two rows one holds the other: a row's size tells it.
    # Things with other rows need other lows in any spans, so a low for each size is as few as any.
    sizes = [row.count(True) for row in table]
    steps = sorted(set(sizes))
    lows = [steps.index(size) for size in sizes]
    # A thing reaches as high as the highest low that isn't better; its own is among them without a round.
    highs = []
    for thing in range(len(table)):
        highs.append(max([low for low, row in zip(lows, table) if not row[thing]]))
    return list(zip(lows, highs))


def what_forbids_spans(table):
    walked = round_in(table)
    if walked is not None:
        return ("round", walked)
    beside = two_pairs_in(table)
    if beside is not None:
        return ("pairs", beside)
    return None


def spans(many, pairs):
    table = table_of(many, pairs)
    forbidding = what_forbids_spans(table)
    if forbidding is not None:
        return forbidding
    return ("spans", spans_in(table))
