"""All the ways to make some flags yes or no."""


class Spread:
    """The ways of these flags, keys ascending: how many there are, the bits of all, by keys those where it's yes.

    The ways are in the document's order of situations: way 0 has each flag no, and the flag with the least key
    weighs most.
    """

    def __init__(self, flag_keys):
        self.ways = 1
        self.full = 1
        self.bits = {}
        for key in reversed(flag_keys):
            self.double(key)

    def double(self, key):
        """All ways so far with this flag no, then all of them with it yes."""
        for known in list(self.bits):
            self.bits[known] |= self.bits[known] << self.ways
        self.bits[key] = self.full << self.ways
        self.full |= self.full << self.ways
        self.ways += self.ways
