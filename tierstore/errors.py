"""The refusals of the program, all under TierError.

Those with a field hand it on as it is and make no words of it: Python refuses
to write out a very long number, and a refusal must not fail while it is made.
"""


class TierError(ValueError):
    pass


class BadKey(TierError):
    pass


class BadValue(TierError):
    pass


class BadDeed(TierError):
    pass


class BadStamp(TierError):
    pass


class BadSieve(TierError):
    pass


class BadRow(TierError):
    pass


class BadRun(TierError):
    def __init__(self, line):
        TierError.__init__(self, line)
        self.line = line


class BadJournal(TierError):
    def __init__(self, place):
        TierError.__init__(self, place)
        self.place = place


class BadTiers(TierError):
    def __init__(self, line):
        TierError.__init__(self, line)
        self.line = line


class NoFile(TierError):
    def __init__(self, name):
        TierError.__init__(self, name)
        self.name = name


class Stopped(TierError):
    def __init__(self, step):
        TierError.__init__(self, step)
        self.step = step


class NoSnapshot(TierError):
    def __init__(self, stamp):
        TierError.__init__(self, stamp)
        self.stamp = stamp


class BadFile(TierError):
    def __init__(self, name):
        TierError.__init__(self, name)
        self.name = name
