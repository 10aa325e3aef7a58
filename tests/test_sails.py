"""[26]: what a boat can do with several sails, and which of them it does not need."""
import random
import unittest
from itertools import combinations

from tests.helpers import (NOT_POINT, check_arguments, check_raised, random_figure, random_point, slow_hull, slow_time,
                           wrong_given, wrong_index)
from tests.slow import told
from tests.wrong import BEAM, BOX, DIAMOND, KITE, WEDGE, WRONG_SAILS
from windfigure.errors import InvalidPoint, InvalidSails
from windfigure.figures import is_figure, tacks_of, time_of
from windfigure.sails import carriers, fewest_sails, joint_figure, needless_sails, tacks_with_sails

WIDE = ((0, 0, 1), (2, 0, 1), (0, 2, 1))
LONG = ((0, 0, 1), (3, 0, 1), (0, 1, 1))
SMALL = ((0, 0, 1), (1, 0, 1), (0, 1, 1))
LOFT = (WIDE, LONG, SMALL)


def slow_joint(sails):
    return slow_hull([corner for sail in sails for corner in sail])


def slow_fewest(sails):
    joint = slow_joint(sails)
    for many in range(1, len(sails) + 1):
        for chosen in combinations(range(len(sails)), many):
            if slow_joint([sails[k] for k in chosen]) == joint:
                return chosen


def slow_needless(sails):
    joint = slow_joint(sails)
    return tuple(k for k in range(len(sails))
                 if len(sails) > 1 and slow_joint(sails[:k] + sails[k + 1:]) == joint)


def random_sails(rng):
    """Sails among which corners are shared and sails stand twice, now and then."""
    sails = []
    for _ in range(rng.randint(1, 8)):
        kind = rng.random()
        if sails and kind < 0.2:
            sails.append(rng.choice(sails))
        elif sails and kind < 0.5:
            corners = [corner for sail in sails for corner in sail]
            hull = slow_hull([(0, 0, 1)] + [rng.choice(corners) for _ in range(4)])
            sails.append(hull if len(hull) > 2 else rng.choice(sails))
        else:
            sails.append(random_figure(rng, 3))
    return tuple(sails)


class Joint(unittest.TestCase):
    def test_one_sail(self):
        for sail in (KITE, DIAMOND, BOX, WEDGE, BEAM):
            self.assertEqual(joint_figure((sail,)), sail)
            self.assertEqual(carriers((sail,)), ((0,),) * len(sail))
            self.assertEqual(needless_sails((sail,)), ())
            self.assertEqual(fewest_sails((sail,)), (0,))

    def test_in_any_order(self):
        self.assertEqual(joint_figure(LOFT), ((0, 0, 1), (3, 0, 1), (0, 2, 1)))
        self.assertEqual(joint_figure(LOFT[::-1]), joint_figure(LOFT))
        self.assertEqual(joint_figure((WEDGE, BEAM)), ((-1, 0, 1), (1, -1, 1), (1, 1, 1), (0, 3, 1)))
        rng = random.Random(1)
        for _ in range(100):
            sails = random_sails(rng)
            joint = joint_figure(sails)
            self.assertEqual(joint, slow_joint(sails))
            self.assertIs(is_figure(joint), True)
            self.assertEqual(joint_figure(tuple(sorted(sails))), joint)

    def test_carriers(self):
        self.assertEqual(carriers(LOFT), ((0, 1, 2), (1,), (0,)))
        self.assertEqual(carriers((LONG, WIDE, LONG)), ((0, 1, 2), (0, 2), (1,)))
        # A corner of a sail on an edge of the joint figure carries nothing.
        self.assertEqual(carriers((DIAMOND, BOX)), ((1,), (1,), (1,), (1,)))
        # Nought is no corner of the joint figure.
        self.assertEqual(carriers((WEDGE, BEAM)), ((1,), (0,), (0,), (1,)))
        rng = random.Random(2)
        for _ in range(100):
            sails = random_sails(rng)
            self.assertEqual(carriers(sails), tuple(tuple(k for k in range(len(sails)) if corner in sails[k])
                                                    for corner in slow_joint(sails)))
            self.assertTrue(all(carriers(sails)))


class Needless(unittest.TestCase):
    def test_twice_inside_and_shared(self):
        self.assertEqual(needless_sails(LOFT), (2,))
        # Each is needless beside the other one, though not both are.
        self.assertEqual(needless_sails((BOX, BOX)), (0, 1))
        self.assertEqual(needless_sails((BOX, KITE, BOX)), (0, 2))
        self.assertEqual(needless_sails((BOX, DIAMOND)), (1,))
        self.assertEqual(needless_sails((WEDGE, BEAM)), ())
        # Three of which each two have all corners.
        one, two, three = ((0, 0, 1), (2, 0, 1), (2, 2, 1)), ((0, 0, 1), (2, 2, 1), (0, 2, 1)), (
            (0, 0, 1), (2, 0, 1), (0, 2, 1))
        self.assertEqual(needless_sails((one, two, three)), (0, 1, 2))
        self.assertEqual(fewest_sails((one, two, three)), (0, 1))
        self.assertEqual(fewest_sails((three, SMALL, two, one)), (0, 2))

    def test_the_fewest_and_the_first_of_them(self):
        self.assertEqual(fewest_sails(LOFT), (0, 1))
        self.assertEqual(fewest_sails((BOX, BOX)), (0,))
        self.assertEqual(fewest_sails((DIAMOND, BOX, BOX)), (1,))
        self.assertEqual(fewest_sails((SMALL,) * 7 + (KITE,)), (7,))
        # The sail with the most corners is none of the fewest.
        rim = [(2, 0, 1), (1, 2, 1), (-1, 2, 1), (-2, 0, 1), (-1, -2, 1), (1, -2, 1)]
        most, one, two = [slow_hull([(0, 0, 1)] + rim[low:high]) for low, high in ((1, 5), (0, 3), (3, 6))]
        self.assertEqual([len(tuple(k for k in carriers((most, one, two)) if at in k)) for at in range(3)], [4, 3, 3])
        self.assertEqual(fewest_sails((most, one, two)), (1, 2))
        self.assertEqual(fewest_sails((two, most, one)), (0, 2))
        self.assertEqual(needless_sails((most, one, two)), (0,))

    def test_eight_sails_all_of_which_are_needed(self):
        rim = [(3, 0), (2, 2), (0, 3), (-2, 2), (-3, 0), (-2, -2), (0, -3), (2, -2)]
        sails = tuple(slow_hull([(0, 0, 1), (x, y, 1), (x - y, x + y, 9)]) for x, y in rim)
        self.assertEqual(len(joint_figure(sails)), 8)
        self.assertEqual(needless_sails(sails), ())
        self.assertEqual(fewest_sails(sails), tuple(range(8)))
        check_raised(self, InvalidSails, "index", 8, fewest_sails, sails + (BOX,))

    def test_random_ones(self):
        rng = random.Random(3)
        seen = {}
        for _ in range(120):
            sails = random_sails(rng)
            self.assertEqual(needless_sails(sails), slow_needless(sails))
            self.assertEqual(fewest_sails(sails), slow_fewest(sails))
            seen[len(fewest_sails(sails))] = seen.get(len(fewest_sails(sails)), 0) + 1
        self.assertGreaterEqual(set(seen), {1, 2, 3, 4})


class Tacks(unittest.TestCase):
    def test_the_first_sail_that_carries(self):
        self.assertEqual(tacks_with_sails(LOFT, (3, 2, 1)), ((1, (3, 0, 1), (1, 1)), (0, (0, 2, 1), (1, 1))))
        self.assertEqual(tacks_with_sails(LOFT, (0, 4, 1)), ((0, (0, 2, 1), (2, 1)),))
        self.assertEqual(tacks_with_sails((SMALL, LONG, LONG, WIDE, WIDE), (3, 2, 1)),
                         ((1, (3, 0, 1), (1, 1)), (3, (0, 2, 1), (1, 1))))

    def test_nought_and_endless_times(self):
        self.assertEqual(tacks_with_sails(LOFT, (0, 0, 1)), ())
        self.assertIsNone(tacks_with_sails(LOFT, (-1, 5, 1)))
        # Together they can what each alone cannot.
        two = (((0, 0, 1), (1, 0, 1), (0, 1, 1)), ((-1, -1, 1), (0, 0, 1), (-1, 1, 1)))
        self.assertEqual(tacks_with_sails(two, (0, -1, 1)), ((1, (-1, -1, 1), (1, 1)), (0, (1, 0, 1), (1, 1))))

    def test_random_ones(self):
        rng = random.Random(4)
        none = 0
        for _ in range(150):
            sails, way = random_sails(rng), random_point(rng)
            joint, found = slow_joint(sails), tacks_with_sails(sails, way)
            self.assertEqual(time_of(joint, way), told(slow_time(joint, way)))
            if found is None:
                none += 1
                self.assertIsNone(slow_time(joint, way))
                continue
            self.assertEqual(tuple((velocity, time) for index, velocity, time in found), tacks_of(joint, way))
            for index, velocity, time in found:
                self.assertEqual(index, [k for k in range(len(sails)) if velocity in sails[k]][0])
        self.assertTrue(5 < none < 100, none)


SAILS_ROW = ("sails", LOFT, wrong_index(WRONG_SAILS, InvalidSails))


class WrongArguments(unittest.TestCase):
    def test_sails(self):
        for call in (joint_figure, carriers, needless_sails, fewest_sails):
            check_arguments(self, call, [SAILS_ROW])

    def test_tacks(self):
        check_arguments(self, tacks_with_sails, [SAILS_ROW, ("way", (3, 2, 1), wrong_given(NOT_POINT, InvalidPoint))])


if __name__ == "__main__":
    unittest.main()
