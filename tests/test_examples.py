"""The examples of the document, as they stand there."""
import doctest
import unittest

POINTS = """
>>> from windfigure.points import between, direction_of, excess, is_earlier, minus, plus, point_at, sense, side_through, times
>>> [point_at((1, 2), (2, 3)), plus((1, 0, 2), (0, 1, 3)), minus((1, 0, 1), (1, 0, 2)), times((3, 4, 6), (6, 1)), between((0, 0, 1), (1, 2, 1), (1, 2))]
[(3, 4, 6), (3, 2, 6), (1, 0, 2), (3, 4, 1), (1, 2, 2)]
>>> [sense((0, 0, 1), (1, 0, 1), (0, 1, 1)), side_through((1, 0, 1), (0, 1, 1)), excess((1, 1, 1), (1, 1, 1)), excess((2, 0, 1), (1, 5, 4))]
[1, (1, 1, 1), (1, 1), (-1, 2)]
>>> [direction_of((4, -6, 3)), direction_of((0, 0, 1)), is_earlier((1, 0), (5, 1)), is_earlier((-1, 0), (0, 1)), is_earlier((0, -1), (1, -1))]
[(2, -3), None, True, False, True]
"""

POLYGONS = """
>>> from windfigure.polygons import apart, area_of, common_part, far_corners, hull_of, middle_of, moved, sides_of, sum_of, support_of
>>> SQUARE = hull_of(((0, 0, 1), (2, 0, 1), (1, 1, 1), (0, 2, 1), (1, 0, 1), (2, 2, 1), (1, 1, 2)))
>>> HALF = hull_of(((1, 0, 1), (0, 1, 1), (0, 0, 1)))
>>> [SQUARE, HALF, sides_of(HALF)]
[((0, 0, 1), (2, 0, 1), (2, 2, 1), (0, 2, 1)), ((0, 0, 1), (1, 0, 1), (0, 1, 1)), ((0, -1, 0), (1, 1, 1), (-1, 0, 0))]
>>> [sides_of(((0, 0, 1), (1, 2, 1))), sides_of(((1, 1, 2),))]
[((2, -1, 0), (1, 2, 5), (-2, 1, 0), (-1, -2, 0)), ((2, 0, 1), (0, 2, 1), (-2, 0, -1), (0, -2, -1))]
>>> [sum_of(HALF, SQUARE), common_part(SQUARE, moved(HALF, (3, 3, 2))), apart(HALF, moved(HALF, (2, 0, 1)))]
[((0, 0, 1), (3, 0, 1), (3, 2, 1), (2, 3, 1), (0, 3, 1)), ((3, 3, 2), (4, 3, 2), (2, 2, 1), (3, 4, 2)), (1, 0, -1)]
>>> [support_of(SQUARE, (1, 3)), far_corners(SQUARE, (0, 1)), area_of(HALF), middle_of(HALF)]
[(8, 1), ((2, 2, 1), (0, 2, 1)), (1, 2), (1, 1, 3)]
"""

HOURS = """
>>> from windfigure.hours import earliest, hours_from, hours_until, is_plan, latest, plan, reached
>>> RACE = ((((0, 0, 1), (2, 0, 1), (0, 2, 1)), (1, 1)), (((1, 0, 1),), (2, 1)))
>>> POND = ((0, 0, 1), (3, 0, 1), (3, 1, 1), (0, 1, 1))
>>> HOME = ((0, 0, 1),)
>>> [reached(None, RACE, HOME), reached(POND, RACE, HOME), plan(None, RACE, HOME, ((4, 0, 1),))]
[((2, 0, 1), (4, 0, 1), (2, 2, 1)), ((2, 0, 1), (3, 0, 1), (3, 1, 1), (2, 1, 1)), ((0, 0, 1), (2, 0, 1), (4, 0, 1))]
>>> [earliest(None, RACE, HOME, ((2, 1, 1),)), earliest(POND, RACE, HOME, ((4, 0, 1),)), latest(None, RACE, HOME, ((2, 0, 1),))]
[(2, 1), None, (1, 1)]
>>> [hours_until(RACE, (3, 2)), hours_from(RACE, (1, 1)), is_plan(None, RACE, ((0, 0, 1), (1, 1, 1), (3, 1, 1)))]
[((((0, 0, 1), (2, 0, 1), (0, 2, 1)), (1, 1)), (((1, 0, 1),), (1, 2))), ((((1, 0, 1),), (2, 1)),), True]
"""

ISLES = """
>>> from windfigure.isles import corners_of, free_legs, is_free, isles_on
>>> from windfigure.routes import are_kept, heights_tell, holding_up, route_time, soonest_route, soonest_time, times_from, times_to
>>> from windfigure.orders import best_order, best_round
>>> diamond, box = ((-1, 0, 1), (0, -1, 1), (1, 0, 1), (0, 1, 1)), ((-1, -1, 1), (1, -1, 1), (1, 1, 1), (-1, 1, 1))
>>> home, away = (0, 0, 1), (4, 0, 1)
>>> isles = (((1, -1, 1), (3, -1, 1), (2, 2, 1)),)
>>> [is_free(isles, home, away), is_free(isles, (0, -1, 1), (4, -1, 1)), isles_on(isles, home, away), free_legs(isles)]
[False, True, (0,), ((0, 1), (0, 2), (1, 2))]
>>> [soonest_time(diamond, isles, home, away), soonest_time(box, isles, home, away), route_time(diamond, isles, (home, (2, 2, 1), away)), route_time(diamond, isles, (home, away)), soonest_route(diamond, isles, home, away)]
[(6, 1), (4, 1), (8, 1), None, ((0, 0, 1), (1, -1, 1), (3, -1, 1), (4, 0, 1))]
>>> [times_from(diamond, isles, home), times_to(diamond, isles, away), holding_up(diamond, isles, home, away), holding_up(box, isles, home, away)]
[((2, 1), (4, 1), (4, 1)), ((4, 1), (2, 1), (4, 1)), (0,), ()]
>>> low = ((0, 1), (2, 1), (1, 1))
>>> [are_kept(diamond, isles, home, low), heights_tell(diamond, isles, home, low, away), are_kept(diamond, isles, home, ((2, 1), (4, 1), (5, 1)))]
[True, (4, 1), False]
>>> [best_order(diamond, isles, home, (away, (1, -1, 1))), best_round(diamond, isles, home, (away, (1, -1, 1)))]
[((6, 1), (1, 0)), ((12, 1), (0, 1))]
"""

WEATHERS = """
>>> box, wedge = ((-1, -1, 1), (1, -1, 1), (1, 1, 1), (-1, 1, 1)), ((0, 0, 1), (1, -1, 1), (1, 1, 1))
>>> from windfigure.weathers import barring_word, comes_known, words
>>> sky = (((0, 0), (1, 0)),)
>>> [words(sky, 2), comes_known(sky, (box, wedge), (0, 0, 1), ((1, 0, 1),), 1), comes_known(sky, (box, wedge), (0, 0, 1), ((0, 1, 1),), 1), barring_word(sky, (box, wedge), (0, 0, 1), ((0, 1, 1),), 1)[0]]
[((0, 0), (0, 1), (1, 0), (1, 1)), True, False, (1,)]
>>> from windfigure.sureness import is_sure, steer, sure_places
>>> goal = ((1, 0, 1),)
>>> [sure_places(sky, (box, wedge), goal, None, 1, 0), is_sure(sky, (box, wedge), goal, None, 1, (0, 0, 1)), is_sure(sky, (box, wedge), goal, None, 1, (2, 0, 1)), steer(sky, (box, wedge), goal, None, 1, (0, 0, 1), 0, 1)]
[((0, -1, 1), (1, 0, 1), (0, 1, 1)), True, False, (1, 0, 1)]
"""


class Examples(unittest.TestCase):
    def run_text(self, text):
        told = []
        test = doctest.DocTestParser().get_doctest(text, {}, "examples", None, 0)
        result = doctest.DocTestRunner(verbose=False).run(test, out=told.append)
        self.assertEqual(result.failed, 0, "".join(told))
        self.assertGreater(result.attempted, 3)

    def test_points(self):
        self.run_text(POINTS)

    def test_polygons(self):
        self.run_text(POLYGONS)

    def test_hours(self):
        self.run_text(HOURS)

    def test_isles(self):
        self.run_text(ISLES)

    def test_weathers(self):
        self.run_text(WEATHERS)


if __name__ == "__main__":
    unittest.main()
