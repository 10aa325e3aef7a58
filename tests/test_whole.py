"""The whole program: its interface, and that what several modules tell of the same thing agrees."""
import inspect
import random
import unittest
from fractions import Fraction
from importlib import import_module

from tests.helpers import num, pair, pt, random_figure, random_point, slow_hull, spot
from tests.slow import SOME_DIRECTIONS, random_starter_figure
from tests.test_workshops import shop_with
from windfigure.boats import handicap, never_later, parting_way
from windfigure.certificates import certify_boats, certify_chase, certify_soonest, certify_way
from windfigure.chase import bearing_sides, catch_time, catches_always, is_caught_from
from windfigure.checker import accepts
from windfigure.consoles import Console
from windfigure.errors import Broken
from windfigure.figures import made_by, may_sail, tacks_of, time_of, times_in_streams
from windfigure.firsts import head_start, is_first_in, lead, shares_of, time_at
from windfigure.gates import gate_time, soonest_crossing
from windfigure.hours import earliest, is_plan, places_from, plan, reached
from windfigure.meeting import meeting_places, meeting_times
from windfigure.notes import fits, sure_time, told_beside
from windfigure.orders import best_order
from windfigure.points import minus, plus, times
from windfigure.polygons import apart, common_part, holds, lies_inside, opposite_of, scaled, sum_of
from windfigure.races import is_never_behind, word_in
from windfigure.readstreams import stream_fits, streams_that_fit
from windfigure.routes import route_time, soonest_route, soonest_time
from windfigure.sails import joint_figure, tacks_with_sails
from windfigure.shores import holds_off, weather_time
from windfigure.sureness import is_sure, sure_places
from windfigure.weathers import barring_word, comes_known
from windfigure.winds import time_square

INTERFACE = """
points: is_fraction(value) is_point(value) is_side(value) is_direction(value) direction_of(way)
  is_earlier(direction,other) point_at(east,north) plus(point,other) minus(point,other) times(point,fraction)
  between(point,other,fraction) sense(point,other,third) side_through(point,other) excess(side,point)
polygons: is_polygon(value) hull_of(points) sides_of(polygon) holds(polygon,point) is_within(polygon,point)
  support_of(polygon,normal) far_corners(polygon,normal) moved(polygon,point) scaled(polygon,fraction)
  opposite_of(polygon) sum_of(polygon,other) cut_by(polygon,side) common_part(polygon,other) lies_inside(polygon,other)
  apart(polygon,other) area_of(polygon) middle_of(polygon)
figures: is_figure(value) figure_of(paces) time_of(figure,way) side_met(figure,way) tacks_of(figure,way) made_by(tacks)
  may_sail(figure,tacks) times_in_streams(figure,streams,way) steered(figure,stream,velocity) can_stay(figure,streams)
hours: reached(water,hours,start) places_from(water,hours,goal) hours_back(hours) hours_until(hours,time)
  hours_from(hours,time) earliest(water,hours,start,goal) latest(water,hours,start,goal) plan(water,hours,start,goal)
  is_plan(water,hours,places)
winds: time_square(figure,course,wind) is_in_time(figure,course,wind,time) critical_winds(figure,course)
  turned_way(way,wind)
courses: made_in(figure,course) pairs_of(figure,course) course_polygon(figure,course) slowest(figure,course)
  soonest_wind(figure,course) winds_in_time(figure,course,time)
races: race(figure,course,other,its_course) word_in(figure,course,other,its_course,wind)
  is_never_behind(figure,course,other,its_course) wind_behind(figure,course,other,its_course)
  words_on(figure,course,other,its_course,arc)
boats: never_later(figure,other) parting_way(figure,other) handicap(figure,other) handicap_paper(figure,other)
  compare_ways(figure,other)
sails: joint_figure(sails) carriers(sails) needless_sails(sails) fewest_sails(sails) tacks_with_sails(sails,way)
isles: is_isles(value) corners_of(isles) is_free(isles,start,goal) isles_on(isles,start,goal) free_legs(isles)
routes: route_time(figure,isles,route) soonest_time(figure,isles,start,goal) soonest_route(figure,isles,start,goal)
  times_from(figure,isles,start) times_to(figure,isles,goal) are_kept(figure,isles,start,heights)
  heights_tell(figure,isles,start,heights,goal) holding_up(figure,isles,start,goal)
orders: best_order(figure,isles,start,marks) best_round(figure,isles,start,marks)
  order_time(figure,isles,start,marks,order)
gates: is_starter(value) kinks_of(starter,gates) gate_time(starter,gates,goal) soonest_crossing(starter,gates,goal)
  crossing_time(starter,gates,crossing,goal)
channels: cross_of(channel,point) rise_and_fall(figure,channel,way) fewest_runs(figure,channel,start,goal)
  runs_between(figure,channel,start,goal) are_runs(figure,channel,route) runs_form(figure,channel,start,way)
  runs_by_form(form,many) dear_share(form)
shores: holds_off(velocities,shores) held_with(velocities,shores) embayed_by(velocities,shores)
  bars(velocities,shores,weights) barring_weights(velocities,shores) holds_in_wind(figure,stream,shore,wind)
  winds_off(figure,stream,shore) weather_time(figure,shore,start,headland) weather_point(figure,shore,start,headland)
  weathering_runs(figure,shore,start,headland)
firsts: time_at(starter,place) lead(starter,other,place) least_lead(starter,other,polygon)
  greatest_lead(starter,other,polygon) is_first_in(starter,other,polygon) first_parts(starter,other,polygon)
  head_start(starter,other) firsts_at(starters,place) shares_of(starters,begin,end)
meeting: is_mover(value) meeting_times(mover,other) meeting_places(mover,other,time)
chase: closing(velocities,bearing,velocity) catch_time(chaser,fleer) best_flight(chaser,fleer)
  answer_to(chaser,fleer,velocity) is_caught_from(velocities,fleeing,bearing) catches_always(velocities,fleeing)
  bearing_sides(velocities,fleeing) first_catcher(chasers,fleer)
flights: share_left(chaser,fleer,flight) met_in(chaser,fleer,flight) catch_places(chaser,fleer)
  may_reach(chaser,fleer,polygon)
weathers: is_weather(value) words(weather,many) is_word(weather,word) comes_known(weather,figures,place,goal,many)
  barring_word(weather,figures,place,goal,many)
sureness: sure_places(weather,figures,goal,water,many,state) is_sure(weather,figures,goal,water,many,place)
  steer(weather,figures,goal,water,many,place,state,wind)
notes: velocity_of(note) least_polygon(notes) fits(notes,figure) some_figure_fits(notes) contradiction(notes)
  status_of(notes,velocity) sure_time(notes,way) least_time(notes,way) needless_notes(notes) kept_notes(notes)
  tells_all(notes,others) told_beside(notes,figure) figure_that_fits(notes)
readstreams: streams_that_fit(figure,trips) stream_fits(figure,trips,stream) trips_at_odds(figure,trips)
checker: accepts(claim,paper)
certificates: certify_way(figure,way,time) certify_boats(figure,other) certify_race(figure,course,other,its_course)
  certify_known(weather,figures,place,goal,many) certify_sure(weather,figures,goal,water,many,place)
  certify_soonest(figure,isles,start,goal) certify_first(starter,other,polygon) certify_chase(chaser,fleer,time)
  certify_notes(notes) certify_shores(velocities,shores)
"""
CLASSES = """
workshops: Workshop.__init__(self) Workshop.put(self,name,figure) Workshop.drop(self,name) Workshop.wish(self,wish)
  Workshop.lift(self,index) Workshop.named(self,name) Workshop.undo(self) Workshop.trial(self)
  Workshop.tried(self,action) Workshop.__len__(self) Workshop.__contains__(self,name)
consoles: Console.__init__(self,shop) Console.say(self,line)
"""


def listed(text):
    """Triples of a module, a name and its parameters."""
    for row in text.replace("\n  ", " ").strip().split("\n"):
        module, rest = row.split(": ")
        for told in rest.split():
            name, parameters = told[:-1].split("(")
            yield module, name, parameters.split(",")


class Interface(unittest.TestCase):
    def check(self, found, module, parameters):
        self.assertTrue(inspect.isfunction(found))
        self.assertEqual(found.__module__, "windfigure." + module)
        signature = inspect.signature(found)
        self.assertEqual(list(signature.parameters), parameters)
        for parameter in signature.parameters.values():
            self.assertIs(parameter.default, inspect.Parameter.empty)
            self.assertIs(parameter.kind, inspect.Parameter.POSITIONAL_OR_KEYWORD)

    def test_functions(self):
        many = 0
        for module, name, parameters in listed(INTERFACE):
            self.check(getattr(import_module("windfigure." + module), name), module, parameters)
            many += 1
        self.assertEqual(many, 173)

    def test_classes(self):
        for module, name, parameters in listed(CLASSES):
            kind, method = name.split(".")
            found = vars(import_module("windfigure." + module))[kind]
            self.assertEqual(found.__module__, "windfigure." + module)
            self.check(vars(found)[method], module, parameters)
        workshop = import_module("windfigure.workshops").Workshop
        for name in ("names", "wishes"):
            self.assertIsInstance(vars(workshop)[name], property)


class OneWay(unittest.TestCase):
    def test_the_least_time_of_one_way(self):
        rng = random.Random(1)
        seen = {True: 0, False: 0}
        for _ in range(200):
            figure, start, goal = random_figure(rng, 3), random_point(rng), random_point(rng)
            way = minus(goal, start)
            time = time_of(figure, way)
            seen[time is None] += 1
            self.by_tacks(figure, way, time)
            self.by_routes(figure, start, goal, time)
            self.by_streams_and_meetings(figure, start, goal, way, time)
            self.by_hours_and_weathers(figure, start, goal, time)
            self.by_console(figure, way, time)
            square = time_square(figure, (way,), (1, 0)) if way != (0, 0, 1) else pair(0)
            self.assertEqual(square, None if time is None else pair(num(time) ** 2))
            notes = tuple(("made", corner, (1, 1)) for corner in figure)
            self.assertEqual(sure_time(notes, way), time)
        self.assertGreater(min(seen.values()), 30, seen)

    def by_tacks(self, figure, way, time):
        tacks = tacks_of(figure, way)
        if time is None:
            self.assertIsNone(tacks)
            self.assertIsNone(tacks_with_sails((figure,), way))
        else:
            self.assertEqual(made_by(tacks), (way, time))
            self.assertIs(may_sail(figure, tacks), True)
            self.assertEqual(tacks_with_sails((figure, figure), way),
                             tuple((0, velocity, length) for velocity, length in tacks))
            self.assertEqual(certify_way(figure, way, time), (("in time", figure, way, time), tacks))
        later = pair(num(time) / 2) if time else (99, 1)
        told = certify_way(figure, way, later)
        self.assertEqual(told[0][0], "in time" if time == (0, 1) else "too late")
        self.assertIs(accepts(*told), True)

    def by_routes(self, figure, start, goal, time):
        self.assertEqual(soonest_time(figure, (), start, goal), time)
        self.assertEqual(route_time(figure, (), (start, goal)), time)
        self.assertEqual(certify_soonest(figure, (), start, goal)[0][-1], time)
        self.assertEqual(best_order(figure, (), start, (goal,)), None if time is None else (time, (0,)))
        if time is not None:
            self.assertEqual(route_time(figure, (), soonest_route(figure, (), start, goal)), time)
            # A headland is weathered no later than it is come to.
            self.assertLessEqual(num(weather_time(figure, (0, 1, 99), start, goal)), num(time))

    def by_streams_and_meetings(self, figure, start, goal, way, time):
        still = (((0, 0, 1),), goal)
        for found in (times_in_streams(figure, ((0, 0, 1),), way), meeting_times((figure, start), still)):
            self.assertEqual(found, None if time is None else (time, None))
        if time is not None:
            self.assertEqual(meeting_places((figure, start), still, time), (goal,))
        # A fleer that lies still is caught when its place is come to.
        self.assertEqual(catch_time((figure, start), still), time)
        if time is not None and time != (0, 1):
            self.assertIs(stream_fits(figure, ((way, time),), (0, 0, 1)), True)
            self.assertIs(holds(streams_that_fit(figure, ((way, time),)), (0, 0, 1)), True)

    def by_hours_and_weathers(self, figure, start, goal, time):
        hours = ((figure, (2, 1)), (figure, (7, 3)))
        found = earliest(None, hours, (start,), (goal,))
        within = time is not None and num(time) <= Fraction(13, 3)
        self.assertEqual(found, time if within else None)
        self.assertIs(holds(reached(None, hours, (start,)), goal), within)
        self.assertIs(holds(places_from(None, hours, (goal,)), start), within)
        places = plan(None, hours, (start,), (goal,))
        self.assertIs(places is not None, within)
        if within:
            self.assertIs(is_plan(None, hours, places), True)
        sky = (((0, 0),),)
        for many in (1, 2, 4):
            can = time is not None and num(time) <= many
            self.assertIs(comes_known(sky, (figure,), start, (goal,), many), can)
            self.assertIs(barring_word(sky, (figure,), start, (goal,), many) is None, can)
            self.assertIs(is_sure(sky, (figure,), (goal,), None, many, start), can)
            self.assertIs(holds(sure_places(sky, (figure,), (goal,), None, many, 0), start), can)

    def by_console(self, figure, way, time):
        console = Console(shop_with(gull=figure))
        text = " ".join(map(str, way))
        self.assertEqual(console.say("time gull: " + text), "endless" if time is None else "/".join(map(str, time)))

    def test_starters_and_gates(self):
        rng = random.Random(2)
        for _ in range(150):
            figure, start, goal = random_starter_figure(rng), random_point(rng), random_point(rng)
            time = time_of(figure, minus(goal, start))
            starter = (figure, start)
            self.assertEqual(time_at(starter, goal), time)
            # Gates that the straight way passes cost nothing.
            gates = []
            for share in (Fraction(1, 4), Fraction(1, 2), Fraction(3, 4), Fraction(1))[:rng.randint(1, 4)]:
                (x, y), (u, v) = spot(start), spot(goal)
                p, q = x + share * (u - x), y + share * (v - y)
                s, t = spot(random_point(rng))
                if (s, t) == (0, 0):
                    s = 1
                gates.append((pt(p - s, q - t), pt(p + 2 * s, q + 2 * t)))
            self.assertEqual(gate_time(starter, tuple(gates), goal), time)
            crossing = soonest_crossing(starter, tuple(gates), goal)
            self.assertEqual(route_time(figure, (), (start,) + crossing + (goal,)), time)


class TwoBoats(unittest.TestCase):
    def test_never_later(self):
        rng = random.Random(3)
        seen = {True: 0, False: 0}
        for _ in range(150):
            figure, other = random_starter_figure(rng), random_starter_figure(rng)
            if rng.random() < 0.8:
                share = rng.choice((Fraction(1, 2), Fraction(1, 4), Fraction(1, 8)))
                other = slow_hull([pt(share * x, share * y) for x, y in map(spot, other)])
            told = never_later(figure, other)
            seen[told] += 1
            self.assertIs(lies_inside(other, figure), told)
            self.assertIs(parting_way(figure, other) is None, told)
            self.assertIs(num(handicap(figure, other)) <= 1, told)
            self.assertIs(lies_inside(other, scaled(figure, handicap(figure, other))), True)
            self.assertIs(head_start((figure, (1, 2, 3)), (other, (1, 2, 3))) is not None, told)
            self.assertIs(is_first_in((figure, (1, 2, 3)), (other, (1, 2, 3)), ((-9, -9, 1), (9, -9, 1), (0, 9, 1))), told)
            self.assertIs(joint_figure((figure, other)) == figure, told)
            self.assertEqual(certify_boats(figure, other)[0][0], "never later" if told else "later")
            shop = shop_with(one=figure, two=other)
            console = Console(shop)
            self.assertEqual(console.say("later one: two") == "never", told)
            self.check_wish(shop, ("never later", "one", "two"), told)
            notes = tuple(("made", corner, (1, 1)) for corner in figure)
            self.assertEqual(told_beside(notes, other) == "sure", told)
            self.assertIs(fits(notes, figure), True)
            for way in other:
                course = (way,)
                if told and way != (0, 0, 1):
                    self.assertIs(is_never_behind(figure, course, other, course), True)
                    self.assertIn(word_in(figure, course, other, course, (3, -1)), ("first", "level"))
        self.assertGreater(min(seen.values()), 30, seen)

    def check_wish(self, shop, wish, told):
        if told:
            self.assertIsNone(shop.wish(wish))
        else:
            with self.assertRaises(Broken):
                shop.wish(wish)

    def test_chases(self):
        rng = random.Random(4)
        seen = {True: 0, False: 0}
        for _ in range(100):
            one, two = random_starter_figure(rng), random_figure(rng, 2)
            if rng.random() < 0.7:
                two = slow_hull([pt(x / 4, y / 4) for x, y in map(spot, two)])
            told = catches_always(one, two)
            seen[told] += 1
            self.assertIs(all(is_caught_from(one, two, (x, y, 1)) for x, y in SOME_DIRECTIONS) and told, told)
            self.assertIs(bearing_sides(one, two) == (), told)
            self.check_wish(shop_with(one=one, two=two), ("catches", "one", "two"), told)
            start = random_point(rng)
            for its_start in [random_point(rng) for _ in range(3)]:
                time = catch_time((one, start), (two, its_start))
                if told:
                    self.assertIsNotNone(time)
                if time is not None:
                    self.assertEqual(certify_chase((one, start), (two, its_start), time)[0][0], "caught")
                if its_start != start:
                    self.assertIs(is_caught_from(one, two, minus(its_start, start)), time is not None)
        self.assertGreater(min(seen.values()), 20, seen)

    def test_polygons_and_shores(self):
        rng = random.Random(5)
        for _ in range(100):
            one, two = random_figure(rng, 3), random_figure(rng, 3)
            point = random_point(rng, 6)
            moved = tuple(plus(corner, point) for corner in two)
            self.assertIs(apart(one, moved) is None, common_part(one, moved) is not None)
            self.assertIs(holds(sum_of(one, opposite_of(moved)), (0, 0, 1)), common_part(one, moved) is not None)
            shores = tuple((rng.randint(-2, 2), rng.choice((-1, 1)), 1) for _ in range(3))
            shop = shop_with(one=one)
            drifting = tuple(plus(corner, point) for corner in one)
            self.check_wish(shop, ("holds off", "one", point, shores), holds_off(drifting, shores))

    def test_who_is_first_along_a_way(self):
        rng = random.Random(6)
        for _ in range(60):
            one = (random_starter_figure(rng), random_point(rng))
            two = (random_starter_figure(rng), random_point(rng))
            begin, end = random_point(rng), random_point(rng)
            if begin == end:
                continue
            shares = shares_of((one, two), begin, end)
            for k in range(7):
                place = plus(begin, times(minus(end, begin), pair(Fraction(k, 6))))
                ahead = num(lead(one, two, place))
                for index, first in ((0, ahead >= 0), (1, ahead <= 0)):
                    self.assertIs(any(num(low) <= Fraction(k, 6) <= num(high) for low, high in shares[index]), first)
                    self.assertIs(is_first_in((one, two)[index], (two, one)[index], (place,)), first)


if __name__ == "__main__":
    unittest.main()
