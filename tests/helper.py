"""What the tests share: the document's words, looked at thing by thing, and sayings to try."""

from functools import partial
from itertools import combinations, product

from keenscale.lines import shown
from keenscale.marks import least_width, marks, marks_of, misfit, three_row
from keenscale.sayings import alike, round_of
from keenscale.spans import spans, two_pairs

# Every call that takes sayings, called with how many things and the sayings.
CALLS = {
    "round_of": round_of, "alike": alike, "two_pairs": two_pairs, "spans": spans, "least_width": least_width,
    "three_row": three_row, "marks": marks, "shown": shown,
    "marks_of 1": partial(marks_of, width=1), "marks_of 3": partial(marks_of, width=3),
    "marks_of 1000": partial(marks_of, width=1000),
    "misfit 1": partial(misfit, width=1), "misfit 3": partial(misfit, width=3),
    "misfit 1000": partial(misfit, width=1000),
}
BIG = int("9" * 40)


def draws(seed):
    """Numbers that jump about, the same ones every time."""
    state = seed
    while True:
        state = (state * 6364136223846793005 + 1442695040888963407) % 2 ** 64
        yield state >> 33


def every_saying(many):
    return list(product(range(many), repeat=2))


def every_sayings(many):
    """All the sayings there are of so many things."""
    sayings = every_saying(many)
    for count in range(len(sayings) + 1):
        for pairs in combinations(sayings, count):
            yield list(pairs)


def every_loose_sayings(many):
    """All the sayings there are of so many things in which no thing is better than itself."""
    sayings = [(one, other) for one, other in every_saying(many) if one != other]
    for count in range(len(sayings) + 1):
        for pairs in combinations(sayings, count):
            yield list(pairs)


def few_things():
    """All sayings of up to three things, and of four where none is better than itself."""
    for many in (1, 2, 3):
        for pairs in every_sayings(many):
            yield many, pairs
    for pairs in every_loose_sayings(4):
        yield 4, pairs


def falling(many):
    """Things in a row, each better than all below it."""
    return [(one, other) for one, other in every_saying(many) if one > other]


def told_by(given):
    """The sayings that spans tell, also of a thing and itself."""
    return {
        (one, other)
        for one, other in product(range(len(given)), repeat=2)
        if given[one][0] > given[other][1]
    }


def told_by_marks(given, width):
    """The sayings that marks of a width tell, also of a thing and itself."""
    return {
        (one, other)
        for one, other in product(range(len(given)), repeat=2)
        if given[one] - given[other] >= width
    }


def places(given):
    return max(high for low, high in given) + 1


def drawn_spans(draw, many, most):
    drawn = []
    for thing in range(many):
        ends = sorted([next(draw) % most, next(draw) % most])
        drawn.append(tuple(ends))
    return drawn


def mixed(draw, pairs):
    """The same sayings in another order."""
    return [pair for key, pair in sorted((next(draw), pair) for pair in pairs)]


def drawn_sayings(seed, many, times):
    """Sayings that spans tell, the same with one put in or left out, few and many at random, without a round."""
    draw = draws(seed)
    for time in range(times):
        told = told_by(drawn_spans(draw, many, 1 + next(draw) % (many + 2)))
        yield mixed(draw, told)
        yield mixed(draw, told ^ {(next(draw) % many, next(draw) % many)})
        few = 1 + next(draw) % (2 * many)
        yield [(next(draw) % many, next(draw) % many) for pair in range(few)]
        ranks = mixed(draw, range(many))
        ranked = [(one, other) for one, other in every_saying(many) if ranks[one] > ranks[other]]
        share = 1 + next(draw) % 9
        yield mixed(draw, {pair for pair in ranked if next(draw) % 10 < share})


def drawn_by_marks(seed, many, times):
    """Marks, their width, and the sayings that they tell, in any order."""
    draw = draws(seed)
    for time in range(times):
        width = 1 + next(draw) % (many + 1)
        most = 1 + next(draw) % (width * (2 + next(draw) % many))
        drawn = [next(draw) % most for thing in range(many)]
        yield drawn, width, mixed(draw, told_by_marks(drawn, width))


def drawn_of_all_kinds(seed, many, times):
    """Those of drawn_sayings, those that marks tell, and these with one saying put in or left out."""
    draw = draws(seed)
    yield from drawn_sayings(seed, many, times)
    for drawn, width, pairs in drawn_by_marks(seed, many, times):
        yield pairs
        yield mixed(draw, set(pairs) ^ {(next(draw) % many, next(draw) % many)})


def is_round(pairs, walked):
    said = set(pairs)
    return (
        isinstance(walked, list)
        and len(walked) >= 1
        and len(set(walked)) == len(walked)
        and all((one, other) in said for one, other in zip(walked, walked[1:] + walked[:1]))
    )


def has_round(many, pairs):
    """Whether some thing is better than itself over any number of steps."""
    reach = set(pairs)
    for middle in range(many):
        for one, other in every_saying(many):
            if (one, middle) in reach and (middle, other) in reach:
                reach.add((one, other))
    return any((thing, thing) in reach for thing in range(many))


def is_two_pairs(said, four):
    a, b, c, d = four
    return (a, b) in said and (c, d) in said and (a, d) not in said and (c, b) not in said


def has_two_pairs(many, pairs):
    said = set(pairs)
    return any(is_two_pairs(said, four) for four in product(range(many), repeat=4))


def is_three_row(said, four):
    a, b, c, d = four
    return (a, b) in said and (b, c) in said and (a, d) not in said and (d, c) not in said


def has_three_row(many, pairs):
    said = set(pairs)
    return any(is_three_row(said, four) for four in product(range(many), repeat=4))


def step_worth(said, one, other, width):
    """What the step from one thing to another one is worth; None where there is no step."""
    if (one, other) in said:
        return width
    return None if (other, one) in said else 1 - width


def is_misfit(pairs, walked, width):
    if not isinstance(walked, list) or not walked or len(set(walked)) != len(walked):
        return False
    said = set(pairs)
    worths = [step_worth(said, one, other, width) for one, other in zip(walked, walked[1:] + walked[:1])]
    return None not in worths and sum(worths) > 0


def held_up(many, pairs, given, width):
    """The things whose marks can't be less: those of mark 0, and those that a step holds above one of these."""
    said = set(pairs)
    held = [thing for thing in range(many) if given[thing] == 0]
    for other in held:
        for one in range(many):
            worth = step_worth(said, one, other, width)
            if one not in held and worth is not None and given[one] == given[other] + worth:
                held.append(one)
    return held


def lists_in(told):
    found = [told] if isinstance(told, list) else []
    if isinstance(told, (list, tuple)):
        for part in told:
            found.extend(lists_in(part))
    return found


def are_alike(many, said, one, other):
    return all(
        ((thing, one) in said) == ((thing, other) in said) and ((one, thing) in said) == ((other, thing) in said)
        for thing in range(many)
    )


def whole(number):
    return isinstance(number, int) and not isinstance(number, bool)
