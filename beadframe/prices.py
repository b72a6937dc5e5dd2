"""Prices: what it costs to come from one standing to another."""

from beadframe.layouts import HIGH, LOW


# each kind tells by rod_price what one rod costs
class Price:
    def price(self, one, other):
        return sum([self.rod_price(from_rod, to_rod) for from_rod, to_rod in zip(one, other)])


class ByMoves(Price):
    def rod_price(self, one, other):
        return int(one[HIGH] != other[HIGH]) + int(one[LOW] != other[LOW])


class ByGrips(Price):
    def rod_price(self, one, other):
        return int(one != other)


class ByBeads(Price):
    def rod_price(self, one, other):
        return abs(one[HIGH] - other[HIGH]) + abs(one[LOW] - other[LOW])
