"""What the tests of roads share."""

from showhouse.judge import judged
from showhouse.roads import Left, Shown, run_road
from showhouse.sayings import Saying
from tests.judging import Judging

PLAIN = ("plain",)
OPEN = ("open",)


def seek(*names, most=4):
    return ("seek", names, most)


def through(hole, *roads):
    return ("through", hole, roads)


def split(hole, *roads):
    return ("split", hole, roads)


def first(*roads):
    return ("first", roads)


def lean(by, road, place=(), way="on"):
    return ("lean", by, way, place, road)


def orders(value):
    """All dicts inside a value, as lists of their keys in order."""
    if isinstance(value, dict):
        return [list(value)] + [order for part in value.values() for order in orders(part)]
    if isinstance(value, (tuple, list)):
        return [order for part in value for order in orders(part)]
    return []


class Roading(Judging):
    def ran(self, holes, givens, left, right, road):
        return run_road(self.world, Saying("goal", holes, givens, left, right), road)

    def shows(self, holes, givens, left, right, road, showing):
        """The road shows the saying by exactly this showing."""
        found = self.ran(holes, givens, left, right, road)
        self.assertIsInstance(found, Shown)
        self.assertEqual(found.made, showing)
        self.assertEqual(orders(found.made), orders(showing))
        self.assertIsNone(judged(self.world, Saying("goal", holes, givens, left, right), found.made))

    def leaves(self, holes, givens, left, right, road, *goals):
        """The road leaves exactly these goals."""
        found = self.ran(holes, givens, left, right, road)
        self.assertIsInstance(found, Left)
        self.assertEqual(found.goals, list(goals))

    def remains(self, holes, givens, left, right, road):
        """The road leaves the goal as it is."""
        self.leaves(holes, givens, left, right, road, ([], left, right))
