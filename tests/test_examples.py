"""The examples of the document, as they stand there."""
import doctest
import unittest

POINTS = """
>>> from windfigure.points import between, direction_of, excess, is_earlier, minus, plus, point_at, sense, side_through, times
>>> [point_at((1, 2), (2, 3)), plus((1, 0, 2), (0, 1, 3)), minus((1, 0, 1), (1, 0, 2)), times((3, 4, 6), (6, 1)), between((0, 0, 1), (1, 2, 1), (1, 2))]
[(3, 4, 6), (3, 2, 6), (1, 0, 2), (3, 4, 1), (1, 2, 2)]
>>> [sense((0, 0, 1), (1, 0, 1), (0, 1, 1)), side_through((1, 0, 1), (0, 1, 1)), excess((1, 1, 1), (1, 1, 1)), excess((2, 0, 1), (1, 5, 4))]
[1, (1, 1, 1), (1, 1), (-1, 2)]
>>> [direction_of((4, -6, 3)), direction_of((0, 0, 1)), is_earlier((1, 0), (5, 1)), is_earlier((-1, 0), (0, 1)), is_earlier((0, -1), (1, -1))]
[(2, -3), None, True, False, True]
"""

POLYGONS = """
>>> from windfigure.polygons import apart, area_of, common_part, far_corners, hull_of, middle_of, moved, sides_of, sum_of, support_of
>>> SQUARE = hull_of(((0, 0, 1), (2, 0, 1), (1, 1, 1), (0, 2, 1), (1, 0, 1), (2, 2, 1), (1, 1, 2)))
>>> HALF = hull_of(((1, 0, 1), (0, 1, 1), (0, 0, 1)))
>>> [SQUARE, HALF, sides_of(HALF)]
[((0, 0, 1), (2, 0, 1), (2, 2, 1), (0, 2, 1)), ((0, 0, 1), (1, 0, 1), (0, 1, 1)), ((0, -1, 0), (1, 1, 1), (-1, 0, 0))]
>>> [sides_of(((0, 0, 1), (1, 2, 1))), sides_of(((1, 1, 2),))]
[((2, -1, 0), (1, 2, 5), (-2, 1, 0), (-1, -2, 0)), ((2, 0, 1), (0, 2, 1), (-2, 0, -1), (0, -2, -1))]
>>> [sum_of(HALF, SQUARE), common_part(SQUARE, moved(HALF, (3, 3, 2))), apart(HALF, moved(HALF, (2, 0, 1)))]
[((0, 0, 1), (3, 0, 1), (3, 2, 1), (2, 3, 1), (0, 3, 1)), ((3, 3, 2), (4, 3, 2), (2, 2, 1), (3, 4, 2)), (1, 0, -1)]
>>> [support_of(SQUARE, (1, 3)), far_corners(SQUARE, (0, 1)), area_of(HALF), middle_of(HALF)]
[(8, 1), ((2, 2, 1), (0, 2, 1)), (1, 2), (1, 1, 3)]
"""

HOURS = """
>>> from windfigure.hours import earliest, hours_from, hours_until, is_plan, latest, plan, reached
>>> RACE = ((((0, 0, 1), (2, 0, 1), (0, 2, 1)), (1, 1)), (((1, 0, 1),), (2, 1)))
>>> POND = ((0, 0, 1), (3, 0, 1), (3, 1, 1), (0, 1, 1))
>>> HOME = ((0, 0, 1),)
>>> [reached(None, RACE, HOME), reached(POND, RACE, HOME), plan(None, RACE, HOME, ((4, 0, 1),))]
[((2, 0, 1), (4, 0, 1), (2, 2, 1)), ((2, 0, 1), (3, 0, 1), (3, 1, 1), (2, 1, 1)), ((0, 0, 1), (2, 0, 1), (4, 0, 1))]
>>> [earliest(None, RACE, HOME, ((2, 1, 1),)), earliest(POND, RACE, HOME, ((4, 0, 1),)), latest(None, RACE, HOME, ((2, 0, 1),))]
[(2, 1), None, (1, 1)]
>>> [hours_until(RACE, (3, 2)), hours_from(RACE, (1, 1)), is_plan(None, RACE, ((0, 0, 1), (1, 1, 1), (3, 1, 1)))]
[((((0, 0, 1), (2, 0, 1), (0, 2, 1)), (1, 1)), (((1, 0, 1),), (1, 2))), ((((1, 0, 1),), (2, 1)),), True]
"""

ISLES = """
>>> from windfigure.isles import corners_of, free_legs, is_free, isles_on
>>> from windfigure.routes import are_kept, heights_tell, holding_up, route_time, soonest_route, soonest_time, times_from, times_to
>>> from windfigure.orders import best_order, best_round
>>> diamond, box = ((-1, 0, 1), (0, -1, 1), (1, 0, 1), (0, 1, 1)), ((-1, -1, 1), (1, -1, 1), (1, 1, 1), (-1, 1, 1))
>>> home, away = (0, 0, 1), (4, 0, 1)
>>> isles = (((1, -1, 1), (3, -1, 1), (2, 2, 1)),)
>>> [is_free(isles, home, away), is_free(isles, (0, -1, 1), (4, -1, 1)), isles_on(isles, home, away), free_legs(isles)]
[False, True, (0,), ((0, 1), (0, 2), (1, 2))]
>>> [soonest_time(diamond, isles, home, away), soonest_time(box, isles, home, away), route_time(diamond, isles, (home, (2, 2, 1), away)), route_time(diamond, isles, (home, away)), soonest_route(diamond, isles, home, away)]
[(6, 1), (4, 1), (8, 1), None, ((0, 0, 1), (1, -1, 1), (3, -1, 1), (4, 0, 1))]
>>> [times_from(diamond, isles, home), times_to(diamond, isles, away), holding_up(diamond, isles, home, away), holding_up(box, isles, home, away)]
[((2, 1), (4, 1), (4, 1)), ((4, 1), (2, 1), (4, 1)), (0,), ()]
>>> low = ((0, 1), (2, 1), (1, 1))
>>> [are_kept(diamond, isles, home, low), heights_tell(diamond, isles, home, low, away), are_kept(diamond, isles, home, ((2, 1), (4, 1), (5, 1)))]
[True, (4, 1), False]
>>> [best_order(diamond, isles, home, (away, (1, -1, 1))), best_round(diamond, isles, home, (away, (1, -1, 1)))]
[((6, 1), (1, 0)), ((12, 1), (0, 1))]
"""

WEATHERS = """
>>> box, wedge = ((-1, -1, 1), (1, -1, 1), (1, 1, 1), (-1, 1, 1)), ((0, 0, 1), (1, -1, 1), (1, 1, 1))
>>> from windfigure.weathers import barring_word, comes_known, words
>>> sky = (((0, 0), (1, 0)),)
>>> [words(sky, 2), comes_known(sky, (box, wedge), (0, 0, 1), ((1, 0, 1),), 1), comes_known(sky, (box, wedge), (0, 0, 1), ((0, 1, 1),), 1), barring_word(sky, (box, wedge), (0, 0, 1), ((0, 1, 1),), 1)[0]]
[((0, 0), (0, 1), (1, 0), (1, 1)), True, False, (1,)]
>>> from windfigure.sureness import is_sure, steer, sure_places
>>> goal = ((1, 0, 1),)
>>> [sure_places(sky, (box, wedge), goal, None, 1, 0), is_sure(sky, (box, wedge), goal, None, 1, (0, 0, 1)), is_sure(sky, (box, wedge), goal, None, 1, (2, 0, 1)), steer(sky, (box, wedge), goal, None, 1, (0, 0, 1), 0, 1)]
[((0, -1, 1), (1, 0, 1), (0, 1, 1)), True, False, (1, 0, 1)]
"""

FIGURES = """
>>> from windfigure.figures import can_stay, figure_of, tacks_of, made_by, side_met, steered, time_of, times_in_streams
>>> KITE = figure_of(((-1, 0, 1), (1, -2, 1), (3, 0, 1), (1, 2, 1)))
>>> RUNNER = figure_of(((2, 0, 1), (0, 2, 1)))
>>> [time_of(KITE, (6, 0, 1)), side_met(KITE, (6, 0, 1)), tacks_of(KITE, (6, 0, 1)), tacks_of(KITE, (-2, 2, 1))]
[(2, 1), (1, -1, 3), (((3, 0, 1), (2, 1)),), (((1, 2, 1), (1, 1)), ((-1, 0, 1), (3, 1)))]
>>> [made_by(tacks_of(KITE, (-2, 2, 1))), time_of(RUNNER, (3, 1, 1)), time_of(RUNNER, (-1, 0, 1)), RUNNER]
[((-2, 2, 1), (4, 1)), (2, 1), None, ((0, 0, 1), (2, 0, 1), (0, 2, 1))]
>>> [times_in_streams(KITE, ((-1, 0, 1), (1, 0, 1)), (6, 0, 1)), times_in_streams(RUNNER, ((1, 0, 1),), (2, 0, 1)), times_in_streams(RUNNER, ((1, 0, 1),), (0, 0, 1)), times_in_streams(RUNNER, ((1, 0, 1),), (-1, 0, 1))]
[((3, 1), None), ((2, 3), (2, 1)), ((0, 1), (0, 1)), None]
>>> [steered(KITE, (1, 0, 1), (2, 0, 1)), steered(KITE, (1, 0, 1), (5, 0, 1)), can_stay(KITE, ((1, 0, 1),)), can_stay(RUNNER, ((1, 0, 1),))]
[(1, 0, 1), None, True, False]
"""

WINDS = """
>>> diamond, box, wedge = ((-1, 0, 1), (0, -1, 1), (1, 0, 1), (0, 1, 1)), ((-1, -1, 1), (1, -1, 1), (1, 1, 1), (-1, 1, 1)), ((0, 0, 1), (1, -1, 1), (1, 1, 1))
>>> east = ((1, 0, 1),)
>>> from windfigure.winds import critical_winds, is_in_time, time_square, turned_way
>>> [time_square(diamond, east, (1, 0)), time_square(diamond, east, (1, 1)), time_square(box, east, (1, 1)), time_square(wedge, east, (0, 1)), time_square(wedge, east, (1, 1)), is_in_time(diamond, east, (1, 1), (3, 2)), turned_way((1, 0, 1), (1, 1))]
[(1, 1), (2, 1), (1, 2), None, (1, 2), True, (1, -1, 1)]
>>> [critical_winds(diamond, east), critical_winds(wedge, east)]
[((1, 0), (0, 1), (-1, 0), (0, -1)), ((1, 1), (1, -1))]
>>> from windfigure.courses import course_polygon, made_in, pairs_of, slowest, soonest_wind, winds_in_time
>>> [made_in(diamond, east), made_in(wedge, east), pairs_of(wedge, east), pairs_of(box, east)[0]]
[(None, True, None, True), ((1, -1), True, (1, 1), True), ((((1, -1), True, (1, 1), True), (1, 0, 1)),), (((1, 1), True, (-1, 1), True), (0, 1, 1))]
>>> [course_polygon(diamond, east), course_polygon(box, east), course_polygon(wedge, east)]
[((-1, -1, 1), (1, -1, 1), (1, 1, 1), (-1, 1, 1)), ((-1, 0, 1), (0, -1, 1), (1, 0, 1), (0, 1, 1)), None]
>>> [slowest(wedge, east), slowest(diamond, east)[1], soonest_wind(diamond, east)[1], soonest_wind(wedge, east)[1]]
[((1, 0), (1, 1)), (2, 1), (1, 1), (1, 2)]
>>> [winds_in_time(diamond, east, (3, 2)), winds_in_time(diamond, east, (1, 1)), winds_in_time(diamond, east, (1, 2)), winds_in_time(wedge, east, (1, 1))]
['all', 'some', 'none', 'some']
>>> from windfigure.races import is_never_behind, race, word_in, words_on
>>> race(wedge, east, box, east)
((((1, 1), False, (1, -1), False), 'other'), (((1, -1), True, (1, 1), True), 'level'))
>>> race(diamond, east, box, east)[:3]
((((1, 0), True, (1, 0), True), 'level'), (((1, 0), False, (0, 1), False), 'other'), (((0, 1), True, (0, 1), True), 'level'))
>>> [word_in(diamond, east, box, east, (1, 1)), is_never_behind(box, east, diamond, east), words_on(diamond, east, box, east, ((1, 0), False, (1, 1), True))]
['other', True, ('other',)]
"""

BOATS = """
>>> from windfigure.boats import compare_ways, handicap, handicap_paper, never_later, parting_way
>>> DIAMOND = ((-1, 0, 1), (1, -2, 1), (3, 0, 1), (1, 2, 1))
>>> WEDGE = ((0, 0, 1), (2, 0, 1), (0, 2, 1))
>>> FLAT = ((0, 0, 1), (3, 0, 1), (0, 1, 1))
>>> [never_later(DIAMOND, WEDGE), parting_way(DIAMOND, WEDGE), never_later(DIAMOND, FLAT), parting_way(DIAMOND, FLAT)]
[False, (0, 2, 1), True, None]
>>> [handicap(DIAMOND, WEDGE), handicap_paper(DIAMOND, WEDGE), handicap(WEDGE, DIAMOND), handicap_paper(WEDGE, DIAMOND)]
[(2, 1), ((0, 2, 1), (-1, 1, 1)), None, ((-1, 0, 1), (-1, 0, 0))]
>>> compare_ways(WEDGE, FLAT)
(((1, 0), 'later', 'later'), ((3, 1), 'level', 'sooner'), ((0, 1), 'sooner', 'neither'))
"""

SAILS = """
>>> from windfigure.sails import carriers, fewest_sails, joint_figure, tacks_with_sails, needless_sails
>>> LOFT = (((0, 0, 1), (2, 0, 1), (0, 2, 1)), ((0, 0, 1), (3, 0, 1), (0, 1, 1)), ((0, 0, 1), (1, 0, 1), (0, 1, 1)))
>>> [joint_figure(LOFT), carriers(LOFT), needless_sails(LOFT), fewest_sails(LOFT)]
[((0, 0, 1), (3, 0, 1), (0, 2, 1)), ((0, 1, 2), (1,), (0,)), (2,), (0, 1)]
>>> tacks_with_sails(LOFT, (3, 2, 1))
((1, (3, 0, 1), (1, 1)), (0, (0, 2, 1), (1, 1)))
"""

GATES = """
>>> from windfigure.gates import crossing_time, gate_time, kinks_of, soonest_crossing
>>> diamond, box = ((-1, 0, 1), (0, -1, 1), (1, 0, 1), (0, 1, 1)), ((-1, -1, 1), (1, -1, 1), (1, 1, 1), (-1, 1, 1))
>>> gate = ((2, 1, 1), (2, 5, 1))
>>> [kinks_of((box, (0, 0, 1)), (gate,)), gate_time((box, (0, 0, 1)), (gate,), (4, 0, 1)), gate_time((diamond, (0, 0, 1)), (gate,), (4, 0, 1))]
[(((0, 1), (2, 1)), ((1, 4), (2, 1)), ((1, 1), (5, 1))), (4, 1), (6, 1)]
>>> [soonest_crossing((diamond, (0, 0, 1)), (gate,), (4, 0, 1)), crossing_time((diamond, (0, 0, 1)), (gate,), ((2, 3, 1),), (4, 0, 1))]
[((2, 1, 1),), (10, 1)]
"""

CHANNELS = """
>>> from windfigure.channels import are_runs, cross_of, dear_share, fewest_runs, rise_and_fall, runs_by_form, runs_form
>>> from windfigure.shores import bars, embayed_by, holds_in_wind, holds_off, weather_time, weathering_runs, winds_off
>>> tacker, channel = ((-1, 0, 1), (1, -2, 1), (1, 2, 1)), (0, 1, 0, 4)
>>> [cross_of(channel, (3, 8, 2)), rise_and_fall(tacker, channel, (6, 0, 1)), fewest_runs(tacker, channel, (0, 1, 1), (6, 1, 1)), fewest_runs(tacker, channel, (0, 0, 1), (6, 0, 1)), fewest_runs(tacker, channel, (0, 0, 1), (1, 2, 1))]
[(4, 1), ((6, 1), (6, 1)), 4, 4, 1]
>>> [are_runs(tacker, channel, ((0, 1, 1), (3, 8, 2), (7, 0, 2), (5, 3, 1), (6, 1, 1))), are_runs(tacker, channel, ((0, 1, 1), (3, 7, 1), (6, 1, 1)))]
[True, False]
>>> form = runs_form(tacker, channel, (0, 1, 1), (1, 0, 1))
>>> [form, runs_by_form(form, 4), runs_by_form(form, 6), dear_share(form), runs_by_form(((1, 4), (0, 1)), 4)]
[((1, 4), (1, 4)), 3, 4, (1, 4), 2]
>>> box, drifting = ((-1, -1, 1), (1, -1, 1), (1, 1, 1), (-1, 1, 1)), ((1, -1, 1), (3, -1, 1), (3, 1, 1), (1, 1, 1))
>>> [holds_off(drifting, ((1, 1, 9),)), embayed_by(drifting, ((1, 0, 5),)), embayed_by(drifting, ((1, 1, 9), (1, -1, 9))), bars(drifting, ((1, 1, 9), (1, -1, 9)), (1, 1)), bars(drifting, ((1, 1, 9), (1, -1, 9)), (1, 0))]
[True, (0, 0), (0, 1), True, False]
>>> [winds_off(box, (1, 0, 1), (1, 0, 9)), winds_off(box, (5, 0, 4), (1, 0, 9)), winds_off(box, (2, 0, 1), (1, 0, 9)), holds_in_wind(box, (5, 0, 4), (1, 0, 9), (1, 1)), holds_in_wind(box, (5, 0, 4), (1, 0, 9), (1, 0))]
['all', 'some', 'none', True, False]
>>> [weather_time(box, (0, 1, 0), (0, 0, 1), (4, -1, 1)), weathering_runs(box, (0, 1, 0), (0, 0, 1), (4, -1, 1)), weather_time(box, (0, 1, 0), (4, -3, 1), (4, -1, 1))]
[(4, 1), (1,), (0, 1)]
"""

FIRSTS = """
>>> from windfigure.firsts import first_parts, firsts_at, greatest_lead, head_start, is_first_in, lead, least_lead, shares_of, time_at
>>> diamond, box = ((-1, 0, 1), (0, -1, 1), (1, 0, 1), (0, 1, 1)), ((-1, -1, 1), (1, -1, 1), (1, 1, 1), (-1, 1, 1))
>>> one, two, field = (diamond, (0, 0, 1)), (box, (4, 0, 1)), ((0, 0, 1), (2, 0, 1), (2, 2, 1), (0, 2, 1))
>>> [time_at(one, (2, 1, 1)), lead(one, two, (2, 1, 1)), least_lead(one, two, field), greatest_lead(one, two, field), is_first_in(one, two, field)]
[(3, 1), (-1, 1), ((-2, 1), (2, 2, 1)), ((4, 1), (0, 0, 1)), False]
>>> [first_parts(one, two, field), head_start(one, two), head_start((box, (0, 0, 1)), (diamond, (3, 1, 1)))]
[(None, None, None, ((0, 0, 1), (2, 0, 1), (1, 2, 1), (0, 2, 1))), None, (3, 1)]
>>> [firsts_at((one, two), (2, 0, 1)), shares_of((one, two), (0, 0, 1), (4, 0, 1))]
[(0, 1), ((((0, 1), (1, 2)),), (((1, 2), (1, 1)),))]
"""

FLIGHTS = """
>>> from windfigure.meeting import meeting_places, meeting_times
>>> from windfigure.chase import answer_to, best_flight, catch_time, catches_always, closing, first_catcher, is_caught_from
>>> from windfigure.flights import catch_places, may_reach, met_in, share_left
>>> diamond, fast = ((-1, 0, 1), (0, -1, 1), (1, 0, 1), (0, 1, 1)), ((-2, -2, 1), (2, -2, 1), (2, 2, 1), (-2, 2, 1))
>>> here, there = (diamond, (0, 0, 1)), (diamond, (4, 0, 1))
>>> [meeting_times(here, there), meeting_places(here, there, (2, 1)), meeting_places(here, there, (3, 1)), meeting_places(here, there, (1, 1))]
[((2, 1), None), ((2, 0, 1),), ((1, 0, 1), (2, -1, 1), (3, 0, 1), (2, 1, 1)), None]
>>> chaser, fleer = (fast, (6, 0, 1)), (diamond, (0, 0, 1))
>>> [closing(fast, (-6, 0, 1), (1, 0, 1)), catch_time(chaser, fleer), best_flight(chaser, fleer), answer_to(chaser, fleer, (0, 1, 1)), catch_time(fleer, chaser)]
[(1, 2), (6, 1), (-1, 0, 1), (-2, 1, 1), None]
>>> [catches_always(fast, diamond), catches_always(diamond, diamond), is_caught_from(diamond, diamond, (1, 0, 1)), first_catcher((chaser, (fast, (-3, 0, 1))), fleer)]
[True, False, False, ((3, 1), 1)]
>>> [catch_places(chaser, fleer), share_left(chaser, fleer, (((0, 1, 1), (1, 1)),)), met_in(chaser, fleer, (((0, 1, 1), (1, 1)), ((1, 0, 1), (4, 1))))]
[((-6, 0, 1), (0, -3, 1), (2, 0, 1), (0, 3, 1)), (2, 3), ((7, 3), (4, 3, 3))]
>>> [may_reach(chaser, fleer, ((0, 3, 1),)), may_reach(chaser, fleer, ((1, 2, 1),))]
[True, False]
"""

NOTES = """
>>> from windfigure.notes import contradiction, kept_notes, least_polygon, least_time, needless_notes, some_figure_fits, status_of, sure_time, told_beside
>>> LOG = (("made", (4, 0, 1), (2, 1)), ("made", (0, 1, 1), (1, 1)), ("made", (1, 0, 1), (1, 1)), ("barred", (3, 3, 1), (1, 1)), ("barred", (4, 4, 1), (1, 1)))
>>> [least_polygon(LOG), some_figure_fits(LOG), status_of(LOG, (1, 0, 1)), status_of(LOG, (2, 1, 1)), status_of(LOG, (6, 6, 1))]
[((0, 0, 1), (2, 0, 1), (0, 1, 1)), True, 'sure', 'open', 'never']
>>> [sure_time(LOG, (2, 1, 1)), sure_time(LOG, (-1, 0, 1)), least_time(LOG, (1, 1, 1)), least_time(LOG, (1, 0, 1))]
[(2, 1), None, (1, 3), (0, 1)]
>>> [needless_notes(LOG), kept_notes(LOG), told_beside(LOG, ((0, 0, 1), (1, 0, 1), (0, 1, 1))), told_beside(LOG, ((0, 0, 1), (9, 0, 1), (0, 9, 1)))]
[(2, 4), (0, 1, 3), 'sure', 'never']
>>> contradiction((("made", (2, 0, 1), (1, 1)), ("made", (0, 2, 1), (1, 1)), ("made", (3, 0, 1), (1, 1)), ("barred", (1, 1, 2), (1, 1))))
(0, 1, 3)
"""

READSTREAMS = """
>>> from windfigure.readstreams import stream_fits, streams_that_fit, trips_at_odds
>>> BOAT = ((-1, 0, 1), (1, -2, 1), (3, 0, 1), (1, 2, 1))
>>> [streams_that_fit(BOAT, (((4, 0, 1), (2, 1)),)), streams_that_fit(BOAT, (((2, 0, 1), (1, 1)), ((-2, 0, 1), (1, 1))))]
[((-1, 0, 1), (1, -2, 1), (3, 0, 1), (1, 2, 1)), ((-1, 0, 1),)]
>>> [trips_at_odds(BOAT, (((2, 0, 1), (1, 1)), ((-2, 0, 1), (1, 1)), ((-3, 0, 1), (1, 1)))), stream_fits(BOAT, (((2, 0, 1), (1, 1)),), (0, 0, 1))]
[(0, 2), True]
"""

WORKSHOP = """
>>> from windfigure.consoles import Console
>>> from windfigure.workshops import Workshop
>>> from windfigure.checker import accepts
>>> from windfigure.certificates import certify_boats, certify_way
>>> shop = Workshop()
>>> console = Console(shop)
>>> [console.say("put gull: 3 0 1; 1 2 1; 1 -2 1; -1 0 1"), console.say("put tern: 2 0 1; 0 2 1"), console.say("names"), console.say("figure tern"), console.say("time gull: 6 0 1"), console.say("time tern: -1 0 1"), console.say("later gull: tern")]
['done', 'done', 'gull tern', '0 0 1; 2 0 1; 0 2 1', '2/1', 'endless', '0 2 1']
>>> shop.wish(("in time", "gull", (6, 0, 1), (2, 1)))
>>> console.say("put gull: 2 0 1; 0 2 1")
Traceback (most recent call last):
windfigure.errors.Broken: 0
>>> tern, gull = shop.named("tern"), shop.named("gull")
>>> [certify_way(tern, (3, 1, 1), (2, 1))[0], certify_way(tern, (3, 1, 1), (1, 1)), certify_boats(gull, tern)[0]]
[('in time', ((0, 0, 1), (2, 0, 1), (0, 2, 1)), (3, 1, 1), (2, 1)), (('too late', ((0, 0, 1), (2, 0, 1), (0, 2, 1)), (3, 1, 1), (1, 1)), (1, 1, 2)), ('later', ((-1, 0, 1), (1, -2, 1), (3, 0, 1), (1, 2, 1)), ((0, 0, 1), (2, 0, 1), (0, 2, 1)))]
>>> [accepts(("too late", tern, (3, 1, 1), (1, 1)), (1, 1, 2)), accepts(("caught", (gull, (0, 0, 1)), (gull, (1, 0, 1)), (9, 1)), ())]
[True, False]
"""


class Examples(unittest.TestCase):
    def run_text(self, text):
        told = []
        test = doctest.DocTestParser().get_doctest(text, {}, "examples", None, 0)
        result = doctest.DocTestRunner(verbose=False).run(test, out=told.append)
        self.assertEqual(result.failed, 0, "".join(told))
        self.assertGreater(result.attempted, 3)

    def test_points(self):
        self.run_text(POINTS)

    def test_polygons(self):
        self.run_text(POLYGONS)

    def test_hours(self):
        self.run_text(HOURS)

    def test_figures(self):
        self.run_text(FIGURES)

    def test_winds(self):
        self.run_text(WINDS)

    def test_boats(self):
        self.run_text(BOATS)

    def test_sails(self):
        self.run_text(SAILS)

    def test_gates(self):
        self.run_text(GATES)

    def test_channels(self):
        self.run_text(CHANNELS)

    def test_firsts(self):
        self.run_text(FIRSTS)

    def test_flights(self):
        self.run_text(FLIGHTS)

    def test_notes(self):
        self.run_text(NOTES)

    def test_readstreams(self):
        self.run_text(READSTREAMS)

    def test_workshop(self):
        # What the console raises is told here as Python shows it.
        self.run_text(WORKSHOP)

    def test_isles(self):
        self.run_text(ISLES)

    def test_weathers(self):
        self.run_text(WEATHERS)


if __name__ == "__main__":
    unittest.main()
