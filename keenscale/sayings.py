"""Sayings of what is clearly better: what is refused, rounds, and things that are alike.

A table of sayings is a list of rows: table[one][other] is True where one is better than other.
"""

from keenscale.errors import BadSay


def refuse_strangers(many, pairs):
    for one, other in pairs:
        for thing in (one, other):
            if not 0 <= thing < many:
                raise BadSay(f"there is no thing {thing}")


def table_of(many, pairs):
    # Ahead of the table: a thing below 0 would count from a row's end.
    refuse_strangers(many, pairs)
    table = [[False] * many for thing in range(many)]
    for one, other in pairs:
        table[one][other] = True
    return table


def beaten_by(table, thing, among):
    return [other for other in among if table[thing][other]]


def things_without_ends(table):
    # A thing that is better than none of those left stands in no round of them, so it can go.
    left = list(range(len(table)))
    while True:
        kept = [thing for thing in left if beaten_by(table, thing, left)]
        if len(kept) == len(left):
            return kept
        left = kept


def come_round(onward, thing):
    walked = []
    while thing not in walked:
        walked.append(thing)
        thing = onward[thing]
    # What was walked ahead of the thing come back to only leads into the round.
    return walked[walked.index(thing):]


def round_in(table):
    left = things_without_ends(table)
    if not left:
        return None
    # Each thing left is better than another one left, so the walk never ends but by coming back.
    onward = {}
    for thing in left:
        onward[thing] = beaten_by(table, thing, left)[0]
    return come_round(onward, left[0])


def round_of(many, pairs):
    return round_in(table_of(many, pairs))


def alike(many, pairs):
    table = table_of(many, pairs)
    groups = {}
    for thing in range(many):
        # Things are alike just where their rows are the same and their columns are the same.
        column = [row[thing] for row in table]
        groups.setdefault((tuple(table[thing]), tuple(column)), []).append(thing)
    return list(groups.values())
