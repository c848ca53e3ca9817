"""Sayings written as one line of text, and read back from it."""

from keenscale.errors import BadLine
from keenscale.sayings import refuse_strangers

MOST_THINGS = 12
MOST_SAYINGS = 200


def shown(many, pairs):
    refuse_strangers(many, pairs)
    words = [f" {one}>{other}" for one, other in pairs]
    return f"{many}:" + "".join(words)


def number_in(word, least, most):
    # Looked up as it would be written: so no other way to write a number is taken, however long.
    written = [str(number) for number in range(least, most + 1)]
    if word not in written:
        raise BadLine(f"this is no number from {least} to {most}: {word!r}")
    return least + written.index(word)


def saying_in(word, many):
    things = word.split(">")
    if len(things) != 2:
        raise BadLine(f"this is no saying: {word!r}")
    return (number_in(things[0], 0, many - 1), number_in(things[1], 0, many - 1))


def read(text):
    parts = text.split(":")
    if len(parts) != 2:
        raise BadLine("there is to be one colon")
    many = number_in(parts[0], 1, MOST_THINGS)
    # A blank stands ahead of each saying, so the first word is what stands between the colon and the first blank.
    words = parts[1].split(" ")
    if words[0] != "":
        raise BadLine("behind the colon comes a blank or nothing")
    if len(words) - 1 > MOST_SAYINGS:
        raise BadLine(f"there are more than {MOST_SAYINGS} sayings")
    return (many, [saying_in(word, many) for word in words[1:]])
