"""What is told of a sensor once, when it is made."""


class Settings:
    def __init__(self, given, points):
        self.width = given[0]
        self.tolerance = given[1]
        self.times = given[2]
        self.stuck = given[3]
        self.side = given[4]
        self.lo = given[5]
        self.hi = given[6]
        self.points = points

    def has_in_range(self, count):
        return self.lo <= count <= self.hi
