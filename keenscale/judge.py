"""A judge: some things, and sayings that come and are taken back one by one."""

from keenscale.errors import NoSay
from keenscale.marks import marks
from keenscale.sayings import refuse_strangers
from keenscale.spans import spans


class Judge:
    def __init__(self, many):
        self.many = many
        self.said = {}

    def say(self, one, other):
        refuse_strangers(self.many, [(one, other)])
        if (one, other) in self.said:
            return False
        self.said[(one, other)] = True
        return True

    def unsay(self, one, other):
        refuse_strangers(self.many, [(one, other)])
        if (one, other) not in self.said:
            raise NoSay(f"it was not said that {one} is better than {other}")
        self.said.pop((one, other))

    def sayings(self):
        return sorted(self.said)

    def by_marks(self):
        return marks(self.many, self.sayings())

    def by_spans(self):
        return spans(self.many, self.sayings())
