"""Marks: a whole number for each thing, read by a width, or what forbids them.

Tables are those of keenscale.sayings. A step (one, other, worth) asks that the mark of one be no less than the mark
of other and the worth together; marks tell the sayings just where they give every step what it asks.
"""

from keenscale.errors import NoWidth
from keenscale.sayings import beaten_by, come_round, table_of
from keenscale.spans import what_forbids_spans

GREATEST_WIDTH = 1000


def refuse_width(width):
    if not 1 <= width <= GREATEST_WIDTH:
        raise NoWidth(f"there is no width {width}")


def steps_in(table, width):
    steps = []
    for one in range(len(table)):
        for other in range(len(table)):
            if table[one][other]:
                steps.append((one, other, width))
            elif not table[other][one]:
                steps.append((one, other, 1 - width))
    return steps


def raise_once(steps, found, onward):
    raised = None
    for one, other, worth in steps:
        if found[one] < found[other] + worth:
            found[one] = found[other] + worth
            onward[one] = other
            raised = one
    return raised


def marks_or_misfit(table, width):
    steps = steps_in(table, width)
    # From 0 on, a mark rises only where a step asks it of any marks: so what comes to rest is the least.
    found = [0] * len(table)
    onward = {}
    raised = None
    for turn in range(len(table)):
        raised = raise_once(steps, found, onward)
        if raised is None:
            break
    if raised is None:
        return (found, None)
    # Ways that pass no thing twice have been through by now: what still rises is driven by a misfit behind it.
    return (None, come_round(onward, raised))


def marks_of(many, pairs, width):
    table = table_of(many, pairs)
    refuse_width(width)
    return marks_or_misfit(table, width)[0]


def misfit(many, pairs, width):
    table = table_of(many, pairs)
    refuse_width(width)
    return marks_or_misfit(table, width)[1]


def least_width_in(table):
    # Without any thing the width 1 does.
    for width in range(1, max(len(table), 1) + 1):
        if marks_or_misfit(table, width)[1] is None:
            return width
    return None


def least_width(many, pairs):
    return least_width_in(table_of(many, pairs))


def three_row_in(table):
    things = list(range(len(table)))
    for a in things:
        for b in beaten_by(table, a, things):
            for c in beaten_by(table, b, things):
                for d in things:
                    if not table[a][d] and not table[d][c]:
                        return (a, b, c, d)
    return None


def three_row(many, pairs):
    return three_row_in(table_of(many, pairs))


def marks(many, pairs):
    table = table_of(many, pairs)
    forbidding = what_forbids_spans(table)
    if forbidding is not None:
        return forbidding
    row = three_row_in(table)
    if row is not None:
        return ("row", row)
    width = least_width_in(table)
    return ("marks", width, marks_or_misfit(table, width)[0])
