"""What the tests share: the document's words, looked at thing by thing, and sayings to try."""

from itertools import combinations, product


def draws(seed):
    """Numbers that jump about, the same ones every time."""
    state = seed
    while True:
        state = (state * 6364136223846793005 + 1442695040888963407) % 2 ** 64
        yield state >> 33


def every_saying(many):
    return list(product(range(many), repeat=2))


def every_sayings(many):
    """All the sayings there are of so many things."""
    sayings = every_saying(many)
    for count in range(len(sayings) + 1):
        for pairs in combinations(sayings, count):
            yield list(pairs)


def told_by(spans):
    """The sayings that spans tell, also of a thing and itself."""
    return {
        (one, other)
        for one, other in product(range(len(spans)), repeat=2)
        if spans[one][0] > spans[other][1]
    }


def places(spans):
    return max(high for low, high in spans) + 1


def drawn_spans(draw, many, most):
    spans = []
    for thing in range(many):
        ends = sorted([next(draw) % most, next(draw) % most])
        spans.append(tuple(ends))
    return spans


def mixed(draw, pairs):
    """The same sayings in another order."""
    return [pair for key, pair in sorted((next(draw), pair) for pair in pairs)]


def drawn_sayings(seed, many, times):
    """Sayings that spans tell, the same with one put in or left out, few and many at random, without a round."""
    draw = draws(seed)
    for time in range(times):
        told = told_by(drawn_spans(draw, many, 1 + next(draw) % (many + 2)))
        yield mixed(draw, told)
        yield mixed(draw, told ^ {(next(draw) % many, next(draw) % many)})
        few = 1 + next(draw) % (2 * many)
        yield [(next(draw) % many, next(draw) % many) for pair in range(few)]
        ranks = mixed(draw, range(many))
        falling = {(one, other) for one, other in every_saying(many) if ranks[one] > ranks[other]}
        share = 1 + next(draw) % 9
        yield mixed(draw, {pair for pair in sorted(falling) if next(draw) % 10 < share})


def is_round(pairs, walked):
    said = set(pairs)
    return (
        isinstance(walked, list)
        and len(walked) >= 1
        and len(set(walked)) == len(walked)
        and all((one, other) in said for one, other in zip(walked, walked[1:] + walked[:1]))
    )


def has_round(many, pairs):
    """Whether some thing is better than itself over any number of steps."""
    reach = set(pairs)
    for middle in range(many):
        for one, other in every_saying(many):
            if (one, middle) in reach and (middle, other) in reach:
                reach.add((one, other))
    return any((thing, thing) in reach for thing in range(many))


def is_two_pairs(said, four):
    a, b, c, d = four
    return (a, b) in said and (c, d) in said and (a, d) not in said and (c, b) not in said


def has_two_pairs(many, pairs):
    said = set(pairs)
    return any(is_two_pairs(said, four) for four in product(range(many), repeat=4))


def are_alike(many, said, one, other):
    return all(
        ((thing, one) in said) == ((thing, other) in said) and ((one, thing) in said) == ((other, thing) in said)
        for thing in range(many)
    )


def whole(number):
    return isinstance(number, int) and not isinstance(number, bool)
