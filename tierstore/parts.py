"""Parts: the places of a store where entries lie, asked all alike."""

from tierstore.keys import GREATEST_STAMP
from tierstore.runs import between, find
from tierstore.sieves import may_have
from tierstore.tiers import name_of


class Part:
    def called(self):
        return ""

    def says(self, key):
        return False

    def find(self, key, stamp):
        return None

    def between(self, low, high):
        return []


class InHand(Part):
    def __init__(self, hand):
        self.hand = hand

    def called(self):
        return "hand"

    def says(self, key):
        return self.find(key, GREATEST_STAMP) is not None

    def find(self, key, stamp):
        return self.hand.find(key, stamp)

    def between(self, low, high):
        return self.hand.between(low, high)


class InRun(Part):
    def __init__(self, number, run):
        self.number = number
        self.run = run

    def called(self):
        return name_of(self.number)

    def says(self, key):
        return may_have(self.run[0], key)

    def find(self, key, stamp):
        return find(self.run, key, stamp)

    def between(self, low, high):
        return between(self.run, low, high)
