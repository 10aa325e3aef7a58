"""Linear forms of places, for arguments that are known to be right.

A form (a, b, c, m), m above 0, tells (a * x + b * y + c) / m of the place with the coordinates x and y.
"""
from windfigure.exact import side_of
from windfigure.shapes import shape_cut


def part_below(corners, lows, highs):
    """What of the polygon has each of the lows at most each of the highs, None if nothing."""
    part = corners
    for low in lows:
        for high in highs:
            part = cut_below(part, low, high)
            if part is None:
                return None
    return part


def cut_below(corners, low, high):
    """What of the polygon has the first form at most the other one, None if nothing."""
    (a, b, c, m), (p, q, r, n) = low, high
    east, north, bound = a * n - p * m, b * n - q * m, r * m - c * n
    if (east, north) != (0, 0):
        return shape_cut(corners, side_of(east, north, (bound, 1)))
    if bound < 0:
        return None
    return corners
