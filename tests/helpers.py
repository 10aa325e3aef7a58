"""What the tests share: slow answers by other ways, values that are wrong, and a check of all wrong arguments."""
from fractions import Fraction
from functools import cmp_to_key
from math import lcm


class Odd:
    """An object that lets nobody compare, measure, iterate, test or hash it."""

    def __eq__(self, other):
        raise RuntimeError("compared")

    def __len__(self):
        raise RuntimeError("measured")

    def __iter__(self):
        raise RuntimeError("iterated")

    def __bool__(self):
        raise RuntimeError("tested")

    def __hash__(self):
        raise RuntimeError("hashed")


def deep(many):
    value = 1
    for _ in range(many):
        value = (value,)
    return value


# Slow answers -------------------------------------------------------------------------------------------------------

def num(fraction):
    return Fraction(*fraction)


def pair(number):
    number = Fraction(number)
    return (number.numerator, number.denominator)


def spot(point):
    return (Fraction(point[0], point[2]), Fraction(point[1], point[2]))


def pt(x, y):
    """The point with the coordinates x and y: over the least bottom that both have in common."""
    x, y = Fraction(x), Fraction(y)
    w = lcm(x.denominator, y.denominator)
    return (int(x * w), int(y * w), w)


def cross(o, a, b):
    return (a[0] - o[0]) * (b[1] - o[1]) - (a[1] - o[1]) * (b[0] - o[0])


def on_stretch(p, a, b):
    if cross(a, b, p) != 0:
        return False
    return min(a[0], b[0]) <= p[0] <= max(a[0], b[0]) and min(a[1], b[1]) <= p[1] <= max(a[1], b[1])


def in_hull(p, spots):
    """Whether p is in the hull of the spots: it is not if from p all of them lie within less than half a turn."""
    return p in spots or (spots != [] and not any(all(is_seen_left(p, a, b) for b in spots) for a in spots))


def is_seen_left(p, a, b):
    """Whether from p the spot b lies in the direction of a, or to the left of it."""
    left = cross(p, a, b)
    return left > 0 or (left == 0 and (a[0] - p[0]) * (b[0] - p[0]) + (a[1] - p[1]) * (b[1] - p[1]) > 0)


def inside_hull(p, spots):
    """Whether p is in the hull and on no line through two of the spots that has all of them on one side."""
    if not in_hull(p, spots):
        return False
    for a in spots:
        for b in spots:
            if a != b and cross(a, b, p) == 0 and all(cross(a, b, c) >= 0 for c in spots):
                return False
    return len(spots) > 1


def slow_hull(points):
    """The polygon by the words of [8]: the points that are in the hull of no others, in their round."""
    bottom = lcm(*[point[2] for point in points])
    spots = sorted(set((x * (bottom // w), y * (bottom // w)) for x, y, w in points))
    corners = [s for s in spots if not in_hull(s, [t for t in spots if t != s])]
    first = corners[0]
    rest = sorted(corners[1:], key=cmp_to_key(lambda a, b: -1 if cross(first, a, b) > 0 else 1))
    return tuple(pt(Fraction(x, bottom), Fraction(y, bottom)) for x, y in [first] + rest)


def slow_sum(one, two):
    return slow_hull([pt(a[0] + b[0], a[1] + b[1]) for a in map(spot, one) for b in map(spot, two)])


def slow_scaled(polygon, factor):
    return slow_hull([pt(x * factor, y * factor) for x, y in map(spot, polygon)])


def slow_opposite(polygon):
    return slow_scaled(polygon, -1)


def edges(spots):
    return [(spots[k - 1], spots[k]) for k in range(len(spots))]


def meeting(a, b, c, d):
    """The one point of two stretches that are not along each other; None if there is none."""
    u, v = (b[0] - a[0], b[1] - a[1]), (d[0] - c[0], d[1] - c[1])
    det = u[0] * v[1] - u[1] * v[0]
    if det == 0:
        return None
    t = Fraction((c[0] - a[0]) * v[1] - (c[1] - a[1]) * v[0]) / det
    p = (a[0] + t * u[0], a[1] + t * u[1])
    if on_stretch(p, a, b) and on_stretch(p, c, d):
        return p
    return None


def slow_common(one, two):
    """The hull of the corners of each that are in the other one, and of where edges meet."""
    ones, twos = [spot(p) for p in one], [spot(p) for p in two]
    found = [p for p in ones if in_hull(p, twos)] + [p for p in twos if in_hull(p, ones)]
    for a, b in edges(ones):
        for c, d in edges(twos):
            p = meeting(a, b, c, d)
            if p is not None:
                found.append(p)
    if not found:
        return None
    return slow_hull([pt(*p) for p in found])


def slow_afloat(water, polygon):
    return polygon if water is None else slow_common(water, polygon)


def slow_support(polygon, a, b):
    return max(a * x + b * y for x, y in map(spot, polygon))


def slow_sides(polygon):
    """Normals and bounds of lines through each two corners with all on one side, not reduced."""
    spots = [spot(p) for p in polygon]
    found = []
    for k in range(len(spots)):
        (x, y), (u, v) = spots[k], spots[(k + 1) % len(spots)]
        found.append((v - y, x - u, (v - y) * x + (x - u) * y))
    return found


def slow_time(figure, way):
    """The least t with the way in the figure scaled by t, by the corners of its edges; None if there is none."""
    x, y = spot(way)
    best = Fraction(0)
    for a, b, h in slow_sides(figure):
        gain = a * x + b * y
        if h == 0:
            if gain > 0:
                return None
        else:
            best = max(best, gain / h)
    return best


def slow_after(water, here, hour):
    """The places after an hour, from those of a polygon; None for none."""
    if here is None:
        return None
    return slow_afloat(water, slow_sum(here, slow_scaled(hour[0], num(hour[1]))))


def slow_reached(water, hours, start):
    here = slow_afloat(water, start)
    for hour in hours:
        here = slow_after(water, here, hour)
    return here


def slow_words(weather, many):
    """All pairs of a word of so many hours and the state after it, hour by hour."""
    found = [((), 0)]
    for _ in range(many):
        found = [(word + (wind,), later) for word, state in found for wind, later in weather[state]]
    return found


def random_weather(rng, states=3, winds=4):
    many = rng.randint(1, states)
    return tuple(tuple((wind, rng.randrange(many)) for wind in rng.sample(range(winds), rng.randint(1, min(3, winds))))
                 for _ in range(many))


def slow_enters(isle, start, goal):
    """Whether the leg has a point inside the isle: tried at each place where it meets a line, and between these."""
    (x, y), (u, v) = spot(start), spot(goal)
    bounds = [(h - a * x - b * y, h - a * u - b * v) for a, b, h in slow_sides(isle)]
    tries = {Fraction(0), Fraction(1)}
    for first, last in bounds:
        if first != last:
            tries.add(first / (first - last))
    tries = sorted(t for t in tries if 0 <= t <= 1)
    tries += [(s + t) / 2 for s, t in zip(tries, tries[1:])]
    return any(all(first + t * (last - first) > 0 for first, last in bounds) for t in tries)


def slow_free(isles, start, goal):
    return not any(slow_enters(isle, start, goal) for isle in isles)


def random_isle(rng, size=5, wide=2):
    while True:
        x, y = rng.randint(-size, size), rng.randint(-size, size)
        found = slow_hull([pt(x + rng.randint(0, 2 * wide) * Fraction(1, rng.choice((1, 2))),
                              y + rng.randint(0, 2 * wide) * Fraction(1, rng.choice((1, 2))))
                           for _ in range(rng.randint(3, 8))])
        if 3 <= len(found) <= 6:
            return found


def random_isles(rng, most=4, size=5, wide=2):
    found = []
    for _ in range(rng.randint(0, most)):
        isle = random_isle(rng, size, wide)
        if all(slow_common(isle, other) is None for other in found):
            found.append(isle)
    return tuple(found)


def random_outside(rng, isles, size=6):
    """A point inside no isle; a corner or a point of a rim, now and then."""
    while True:
        point = random_point(rng, size, (1, 1, 2))
        if isles and rng.random() < 0.3:
            isle = rng.choice(isles)
            (x, y), (u, v) = spot(isle[0]), spot(isle[-1])
            point = rng.choice([rng.choice(isle), pt((x + u) / 2, (y + v) / 2)])
        if slow_free(isles, point, point):
            return point


def slow_way_time(figure, start, goal):
    (x, y), (u, v) = spot(start), spot(goal)
    return slow_time(figure, pt(u - x, v - y))


def slow_table(figure, isles, places):
    """The soonest times from each place to each, by ever longer ways over the places; None for endless."""
    table = [[slow_way_time(figure, here, there) if slow_free(isles, here, there) else None for there in places]
             for here in places]
    for over in range(len(places)):
        for here in range(len(places)):
            for there in range(len(places)):
                one, two, now = table[here][over], table[over][there], table[here][there]
                if one is not None and two is not None and (now is None or one + two < now):
                    table[here][there] = one + two
    return table


def slow_soonest(figure, isles, start, goal):
    corners = tuple(corner for isle in isles for corner in isle)
    return slow_table(figure, isles, (start,) + corners + (goal,))[0][-1]


def told_time(time):
    return None if time is None else pair(time)


def random_point(rng, size=4, parts=(1, 1, 2, 3)):
    w = rng.choice(parts)
    return pt(Fraction(rng.randint(-size * w, size * w), w), Fraction(rng.randint(-size * w, size * w), w))


def random_polygon(rng, many=5, size=4, parts=(1, 1, 2, 3)):
    return slow_hull([random_point(rng, size, parts) for _ in range(rng.randint(1, many))])


def random_figure(rng, size=4):
    while True:
        found = slow_hull([(0, 0, 1)] + [random_point(rng, size, (1, 1, 2)) for _ in range(rng.randint(2, 5))])
        if len(found) > 2:
            return found


# Wrong values -------------------------------------------------------------------------------------------------------

ANY = [None, True, False, 0, 1, -7, 10 ** 60, "", "x", b"x", [], {}, {"x": 1}, set(), frozenset({1}), Odd(), len, int,
       object(), range(3), (), (None,), ((),), [[1]], (Odd(),), deep(14)]

WRONG_WHOLES = [True, "1", None, b"1", (1,), [1], Odd()]

NOT_FRACTION = ANY + [(1,), (1, 0), (0, 0), (1, -1), (-1, -2), (2, 2), (0, 2), (2, 4), [1, 2], (1, 2, 1)] + [
    (wrong, 2) for wrong in WRONG_WHOLES] + [(2, wrong) for wrong in WRONG_WHOLES]
NOT_FRACTION += [(False, 1), (False, True), (0, True)]
NOT_TIME = NOT_FRACTION + [(-1, 1), (-2, 3)]
NOT_POINT = ANY + [(0, 0), (0, 0, 0), (1, 0, 0), (0, -1, 0), (2, 3, 0), (0, 0, -1), (0, 0, 2), (2, 4, 2), (1, 1, -1),
                   [0, 0, 1], (0, 0, 1, 1), ((0, 0, 1),), (1, 2)] + [
    (wrong, 2, 1) for wrong in WRONG_WHOLES] + [(2, wrong, 1) for wrong in WRONG_WHOLES] + [
    (2, 0, wrong) for wrong in WRONG_WHOLES]
NOT_POINT += [(False, 0, 1), (0, False, 1), (0, 0, True), (False, False, True)]
NOT_SIDE = ANY + [(0, 0, 1), (0, 0, -1), (0, 0, 0), (2, 0, 4), (2, 2, 0), [1, 0, 1], (1, 0), (1, 0, 1, 1)] + [
    (wrong, 1, 1) for wrong in WRONG_WHOLES] + [(1, wrong, 1) for wrong in WRONG_WHOLES] + [
    (1, 1, wrong) for wrong in WRONG_WHOLES]
NOT_SIDE += [(1, 0, False), (False, 1, 0), (1, False, 0)]
NOT_NORMAL = ANY + [(0, 0), (1,), (1, 0, 1), [1, 0]] + [(wrong, 1) for wrong in WRONG_WHOLES] + [
    (1, wrong) for wrong in WRONG_WHOLES]
NOT_NORMAL += [(False, 1), (1, False), (True, True)]
NOT_DIRECTION = NOT_NORMAL + [(2, 0), (0, -2), (4, 6)]

TRIANGLE = ((0, 0, 1), (2, 0, 1), (0, 2, 1))
NOT_POLYGON = ANY + [
    (0, 0, 1), list(TRIANGLE), [list(p) for p in TRIANGLE],
    ((2, 0, 1), (0, 2, 1), (0, 0, 1)), ((0, 2, 1), (0, 0, 1), (2, 0, 1)), ((0, 0, 1), (0, 2, 1), (2, 0, 1)),
    ((0, 0, 1), (1, 0, 1), (2, 0, 1), (0, 2, 1)), ((0, 0, 1), (2, 0, 1), (0, 2, 1), (0, 1, 1)),
    ((0, 0, 1), (2, 0, 1), (1, 1, 2), (0, 2, 1)), ((0, 0, 1), (2, 0, 1), (2, 0, 1), (0, 2, 1)),
    ((0, 0, 1), (2, 0, 1), (0, 2, 1), (0, 0, 1)), ((0, 0, 1), (0, 0, 1)), ((1, 0, 1), (0, 0, 1)),
    ((0, 1, 1), (0, 0, 1)), ((0, 0, 1), (1, 0, 1), (2, 0, 1)), ((0, 0, 1), (4, 0, 2)), ((0, 0, 2),),
    ((0, 0, 1), (2, 0, 1), (0, True, 1)), ((0, 0, 1), None), ((0, 0, 1), [1, 0, 1]), ((0, 0, 1), (2, 0, 1), (0, 2)),
    ((0, 0, 1), (3, 1, 1), (-3, 1, 1), (3, -1, 1), (-3, -1, 1)),
    # A star with five points: it turns to the left everywhere, but goes round twice.
    ((-3, 1, 1), (3, 1, 1), (-2, -3, 1), (0, 3, 1), (2, -3, 1)),
]
NOT_FIGURE = NOT_POLYGON + [
    ((0, 0, 1),), ((0, 0, 1), (2, 0, 1)), ((-1, -1, 1), (1, 1, 1)), ((1, 0, 1), (2, 0, 1), (2, 2, 1)),
    ((-1, 1, 9), (3, 1, 1), (0, 4, 1))]
NOT_WATER = [value for value in NOT_POLYGON if value is not None]


def wrong_given(values, error):
    """Each value with the error that it raises, which tells the value itself."""
    return [(value, error, "given", value) for value in values]


def wrong_index(rows, error):
    return [(value, error, "index", index) for value, index in rows]


NOT_HOUR = ANY + [
    (TRIANGLE,), (TRIANGLE, (1, 1), (1, 1)), [TRIANGLE, (1, 1)], (TRIANGLE, [1, 1]), ((1, 1), TRIANGLE),
    (TRIANGLE, (0, 1)), (TRIANGLE, 1)] + [(wrong, (1, 1)) for wrong in NOT_POLYGON] + [
    (TRIANGLE, wrong) for wrong in NOT_TIME]

STATE = ((0, 0), (1, 0))
NOT_WEATHER = ANY + [
    (STATE, STATE, STATE, STATE), ((),), (STATE, ()), (STATE, None), [STATE], (list(STATE),), STATE, (0, 0), ((0, 0),),
    (((0, 0), (1, 0), (2, 0), (3, 0), (3, 0)),), (((0, 0), (0, 0)),), (STATE, ((2, 1), (2, 0))), (((4, 0),),),
    (((-1, 0),),), (((0, 1),),), (((0, -1),),), (STATE, ((0, 2),)), (((0, 0), [1, 0]),), (((0,),),), (((0, 0, 0),),)
] + [(((wrong, 0),),) for wrong in WRONG_WHOLES] + [(((0, wrong),),) for wrong in WRONG_WHOLES] + [
    (STATE, ((1, wrong),)) for wrong in WRONG_WHOLES]
NOT_WEATHER += [(((False, 0),),), (((0, False),),)]
NOT_MANY = ANY + [7, 8, -1, (1,), [1], "3", 10 ** 39]
NOT_MANY = [value for value in NOT_MANY if not (type(value) is int and 1 <= value <= 6)]

ISLE = ((1, -1, 1), (3, -1, 1), (2, 2, 1))
SEVEN_CORNERS = slow_hull([(x, x * x, 4) for x in range(7)])
ROW = tuple(((k, 0, 1), (2 * k + 1, 0, 2), (k, 1, 1)) for k in range(10, 16))
NOT_ISLE = NOT_POLYGON + [((9, 9, 1),), ((9, 9, 1), (9, 10, 1)), SEVEN_CORNERS]
# Each has a point in common with ISLE: the same, a corner, an edge, a part, one inside, one around.
TOUCHING = [ISLE, ((3, -1, 1), (4, -1, 1), (4, 0, 1)), ((1, -2, 1), (3, -2, 1), (3, -1, 1), (1, -1, 1)),
            ((1, -2, 1), (4, -2, 1), (4, -1, 1), (2, -1, 1)), ((2, 0, 1), (9, 0, 1), (9, 1, 1)),
            ((2, -1, 2), (3, -1, 2), (2, 1, 1)), ((3, 0, 2), (5, 0, 2), (2, 1, 2)), ((-9, -9, 1), (9, -9, 1), (2, 9, 1)),
            ((2, 2, 1), (3, 3, 1), (1, 3, 1)), ((3, 1, 2), (3, 2, 1), (0, 2, 1), (0, 1, 1))[::-1]]
TOUCHING = [slow_hull(list(isle)) for isle in TOUCHING]
NO_TUPLES = [value for value in ANY if not isinstance(value, tuple)]


def not_isles():
    """What is no isles, with the index of the first isle that is wrong."""
    rows = [(value, None) for value in NO_TUPLES + [[], [ISLE]]]
    rows += [((ISLE,) + ROW[:at] + (wrong,) + ROW[at:2], at + 1) for at in range(3) for wrong in NOT_ISLE]
    rows += [((wrong,), 0) for wrong in NOT_ISLE]
    rows += [((ISLE,) + ROW[:at] + (wrong,), at + 1) for at in range(3) for wrong in TOUCHING]
    rows += [(ROW + (wrong,), 6) for wrong in (ISLE, None, ROW[0], ((0, 0, 1),))] + [(ROW + (ISLE, None), 6)]
    return rows + [((ISLE, ROW[0], None, ISLE), 2), ((ISLE, ROW[0], ISLE, None), 2), (ROW[:5] + (None, ISLE), 5)]


def check_raised(test, error, attribute, told, call, *arguments, **named):
    with test.assertRaises(error) as caught:
        call(*arguments, **named)
    test.assertIs(type(caught.exception), error)
    found = getattr(caught.exception, attribute)
    if attribute == "given":
        test.assertIs(found, told)
    else:
        test.assertEqual(found, told)
        test.assertIs(type(found), type(told))


def check_arguments(test, call, rows):
    """Rows of (name, right value, wrong rows): each wrong value alone, by position and by name; then two at once."""
    good = [value for name, value, wrongs in rows]
    names = [name for name, value, wrongs in rows]
    test.assertEqual(call(*good), call(**dict(zip(names, good))))
    for at, (name, value, wrongs) in enumerate(rows):
        for bad, error, attribute, told in wrongs:
            arguments = good[:at] + [bad] + good[at + 1:]
            check_raised(test, error, attribute, told, call, *arguments)
            check_raised(test, error, attribute, told, call, **dict(zip(names, arguments)))
            for later in range(at + 1, len(rows)):
                # What is checked of a later argument must neither come first nor fail on a wrong earlier one.
                arguments[later:] = [row[2][-1 - at % len(row[2])][0] if row[2] else row[1] for row in rows[later:]]
                check_raised(test, error, attribute, told, call, *arguments)
    check_two(test, call, rows, good)


def check_two(test, call, rows, good):
    for first in range(len(rows)):
        for second in range(first + 1, len(rows)):
            for bad, error, attribute, told in few(rows[first][2]):
                for worse in few(rows[second][2]):
                    arguments = list(good)
                    arguments[first], arguments[second] = bad, worse[0]
                    check_raised(test, error, attribute, told, call, *arguments)


def few(rows):
    """At most four of the rows, from the begin, the end and between."""
    if len(rows) <= 4:
        return rows
    return [rows[0], rows[len(rows) // 3], rows[2 * len(rows) // 3], rows[-1]]
