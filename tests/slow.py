"""Slow answers by other ways for winds, arcs, ways, gates and chases; all by Python's fractions."""
from fractions import Fraction
from math import gcd

from tests.helpers import (on_stretch, pair, pt, random_figure, random_point, random_polygon, slow_hull, slow_sides,
                           slow_time, spot)

NOUGHT = (0, 0, 1)


def reduced(x, y):
    """The direction along two numbers."""
    x, y = Fraction(x), Fraction(y)
    x, y = x * x.denominator * y.denominator, y * x.denominator * y.denominator
    common = gcd(int(x), int(y))
    return (int(x) // common, int(y) // common)


def turn_key(direction):
    """A number from 0 to below 4 that grows with the angle."""
    x, y = direction
    share = Fraction(y, abs(x) + abs(y))
    if x < 0:
        return 2 - share
    return share if y >= 0 else 4 + share


def from_key(key):
    key = Fraction(key) % 4
    y = key if key < 1 else 2 - key if key < 3 else key - 4
    x = (1 - abs(y)) * (1 if key < 1 or key >= 3 else -1)
    return reduced(x, y)


def slow_amid(begin, end):
    """A direction between, counterclockwise from the begin; half way round behind it if both are the same."""
    first, last = turn_key(begin), turn_key(end)
    if last <= first:
        last += 4
    return from_key((first + last) / 2)


def slow_in_arc(wind, arc):
    begin, has_begin, end, has_end = arc
    if begin is None:
        return True
    first, last, key = turn_key(begin), turn_key(end), turn_key(wind)
    if key == first:
        return has_begin
    if key == last:
        return has_end
    if first == last:
        return not has_begin
    return (key - first) % 4 < (last - first) % 4


SOME_DIRECTIONS = sorted({reduced(x, y) for x in range(-4, 5) for y in range(-4, 5) if (x, y) != (0, 0)}, key=turn_key)


def many_directions(*more):
    """The axes and the directions told, and some between each two neighbours of all these; in their order."""
    found = sorted({(1, 0), (0, 1), (-1, 0), (0, -1)} | set(more), key=turn_key)
    return [direction for k in range(len(found))
            for direction in (found[k - 1], slow_amid(found[k - 1], found[k]))]


def turned_figure(figure, wind):
    """The figure turned with the wind and scaled by the wind's length, as spots."""
    c, s = wind
    return [(c * x - s * y, s * x + c * y) for x, y in map(spot, figure)]


def slow_square(figure, course, wind):
    """The square of the time of the course in the wind; None if it cannot be made."""
    turned = [pt(x, y) for x, y in turned_figure(figure, wind)]
    times = [slow_time(turned, way) for way in course]
    if None in times:
        return None
    return sum(times) ** 2 * (wind[0] ** 2 + wind[1] ** 2)


def slow_critical(figure, course):
    found = {reduced(p[0] * q[0] + p[1] * q[1], p[1] * q[0] - p[0] * q[1]) for p in map(spot, course)
             for q in map(spot, figure) if q != (0, 0)}
    return sorted(found, key=turn_key)


def slow_word(one, two):
    """The word of [23] for two squares of times."""
    if one is None or two is None:
        return "neither" if one is two else "other" if one is None else "first"
    return "level" if one == two else "first" if one < two else "other"


def told(number):
    return None if number is None else pair(number)


def random_way(rng, size=4):
    while True:
        way = random_point(rng, size)
        if way != NOUGHT:
            return way


def random_course(rng, most=3):
    return tuple(random_way(rng) for _ in range(rng.randint(1, most)))


def random_starter_figure(rng, size=3):
    """A figure that has nought within."""
    while True:
        figure = random_figure(rng, size)
        if all(h > 0 for a, b, h in slow_sides(figure)):
            return figure


def slow_route_time(figure, route):
    """The time of the legs from each point to the next one; None if it is endless."""
    total = Fraction(0)
    for here, there in zip(route, route[1:]):
        (x, y), (u, v) = spot(here), spot(there)
        time = slow_time(figure, pt(u - x, v - y))
        if time is None:
            return None
        total += time
    return total


def slow_closing(velocities, bearing, velocity):
    """The greatest x with velocity + x * bearing on the rim of the polygon; None if there is none."""
    spots, (u, v), (p, q) = [spot(corner) for corner in velocities], spot(bearing), spot(velocity)
    found = []
    for k, (x, y) in enumerate(spots):
        if (x - p) * v == (y - q) * u:
            found.append(((x - p) * u + (y - q) * v) / (u * u + v * v))
        s, t = spots[k - 1][0] - x, spots[k - 1][1] - y
        if u * t != v * s:
            number = ((x - p) * t - (y - q) * s) / (u * t - v * s)
            if on_stretch((p + number * u, q + number * v), (x, y), spots[k - 1]):
                found.append(number)
    return max(found) if found else None


def bearing_between(chaser, fleer):
    (x, y), (u, v) = spot(chaser[1]), spot(fleer[1])
    return pt(u - x, v - y)


def slow_catch_time(chaser, fleer):
    """The time of [43]; None if the fleer is not surely caught."""
    bearing = bearing_between(chaser, fleer)
    if bearing == NOUGHT:
        return Fraction(0)
    found = [slow_closing(chaser[0], bearing, corner) for corner in fleer[0]]
    if None in found or min(found) <= 0:
        return None
    return 1 / min(found)


def random_chase(rng):
    """Two movers: the fleer's velocities touch the chaser's, are few, or are much smaller, now and then."""
    velocities = random_polygon(rng, rng.choice((1, 2, 5, 7)), 4, (1, 1, 2))
    fleeing = random_polygon(rng, rng.choice((1, 2, 3, 5)), 3, (1, 1, 2))
    kind = rng.choice(("any", "small", "small", "touch", "same", "part"))
    if kind == "small":
        x, y = [sum(parts) / len(velocities) for parts in zip(*map(spot, velocities))]
        fleeing = slow_hull([pt(x + u / 5, y + v / 5) for u, v in map(spot, fleeing)])
    if kind == "touch":
        (x, y), (u, v) = spot(rng.choice(velocities)), spot(rng.choice(fleeing))
        fleeing = slow_hull([pt(s + x - u, t + y - v) for s, t in map(spot, fleeing)])
    if kind == "same":
        fleeing = velocities
    if kind == "part":
        fleeing = slow_hull(rng.sample(velocities, rng.randint(1, len(velocities))))
    start = random_point(rng, 3, (1, 1, 2))
    its_start = start if rng.random() < 0.1 else random_point(rng, 3, (1, 1, 2))
    return (velocities, start), (fleeing, its_start)


def meeting_of_lines(one, two, a, b):
    """In a list the point of a stretch on the line a * x + b * y = 0; none if there is not just one."""
    low, high = a * one[0] + b * one[1], a * two[0] + b * two[1]
    if low == high or low * high > 0:
        return []
    share = low / (low - high)
    return [(one[0] + share * (two[0] - one[0]), one[1] + share * (two[1] - one[1]))]
