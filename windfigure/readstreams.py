"""Streams read back: what trips of a known figure tell of the steady stream in which all of them were made."""
from itertools import combinations

from windfigure.errors import InvalidTrips
from windfigure.exact import point_gap, point_times
from windfigure.figures import is_tack, need_figure
from windfigure.points import need_point
from windfigure.shapes import shape_common, shape_holds, shape_moved, shape_opposite

MOST_TRIPS = 12
MOST_AT_ODDS = 3


def need_trips(value):
    if not isinstance(value, tuple) or value == ():
        raise InvalidTrips(None)
    for index, trip in enumerate(value):
        # A trip is told like a tack: by a point, and a time above 0.
        if index == MOST_TRIPS or not is_tack(trip):
            raise InvalidTrips(index)


def streams_that_fit(figure, trips):
    need_figure(figure)
    need_trips(trips)
    return common_streams(figure, trips)


def common_streams(figure, trips):
    """The polygon of the streams in which all of the trips can be made, None if there are none."""
    against = shape_opposite(figure)
    part = None
    for trip in trips:
        streams = shape_moved(against, whole_velocity(trip))
        if part is not None:
            streams = shape_common(part, streams)
            if streams is None:
                return None
        part = streams
    return part


def whole_velocity(trip):
    """The velocity of a trip with the stream."""
    way, (top, bottom) = trip
    return point_times(way, (bottom, top))


def stream_fits(figure, trips, stream):
    need_figure(figure)
    need_trips(trips)
    need_point(stream)
    return all([shape_holds(figure, point_gap(whole_velocity(trip), stream)) for trip in trips])


def trips_at_odds(figure, trips):
    need_figure(figure)
    need_trips(trips)
    # Each trip by itself can be made in some stream.
    for many in range(2, MOST_AT_ODDS + 1):
        for chosen in combinations(range(len(trips)), many):
            if common_streams(figure, [trips[index] for index in chosen]) is None:
                return chosen
    return None
