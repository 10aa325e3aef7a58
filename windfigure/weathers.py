"""Weathers: words of winds, and whether a boat that knows the word ahead comes to a goal in each of them."""
from windfigure.errors import InvalidFigures, InvalidNumber, InvalidWeather, TooMany
from windfigure.exact import ZERO, along, are_whole, is_less, is_whole, ratio_sum, side_of
from windfigure.points import need_point
from windfigure.polygons import is_polygon, need_polygon
from windfigure.shapes import shape_opposite, shape_sides, shape_support

MOST_STATES = 3
MOST_CHOICES = 4
GREATEST_WIND = 3
MOST_HOURS = 6
MOST_WORDS = 300


def is_weather(value):
    if not isinstance(value, tuple) or not 1 <= len(value) <= MOST_STATES:
        return False
    return all([is_state(state, len(value)) for state in value])


def is_state(value, many):
    """Whether this is a state of a weather with so many states."""
    if not isinstance(value, tuple) or not 1 <= len(value) <= MOST_CHOICES:
        return False
    if not all([is_choice(pair, many) for pair in value]):
        return False
    return len({pair[0] for pair in value}) == len(value)


def is_choice(value, many):
    return are_whole(value, 2) and 0 <= value[0] <= GREATEST_WIND and 0 <= value[1] < many


def need_weather(value):
    if not is_weather(value):
        raise InvalidWeather(value)


def need_figures(value, weather):
    if not isinstance(value, tuple):
        raise InvalidFigures(None)
    for index, figure in enumerate(value):
        if not is_polygon(figure):
            raise InvalidFigures(index)
    if len(value) < figures_wanted(weather):
        raise InvalidFigures(len(value))


def figures_wanted(weather):
    return 1 + max([wind for state in weather for wind, following in state])


def need_many(value):
    if not is_whole(value) or not 1 <= value <= MOST_HOURS:
        raise InvalidNumber(value)


def words(weather, many):
    need_weather(weather)
    need_many(many)
    count = count_words(weather, many)
    if count > MOST_WORDS:
        raise TooMany(count)
    begun = [((), 0)]
    for _ in range(many):
        begun = [(word + (wind,), following) for word, state in begun for wind, following in weather[state]]
    return tuple(sorted([word for word, state in begun]))


def count_words(weather, many):
    """As the winds of a state are unlike, each word is had in one way alone."""
    counts = [1 for state in weather]
    for _ in range(many):
        counts = [sum([counts[following] for wind, following in state]) for state in weather]
    return counts[0]


def is_word(weather, word):
    need_weather(weather)
    if not isinstance(word, tuple):
        return False
    state = 0
    for wind in word:
        state = state_after(weather[state], wind)
        if state is None:
            return False
    return True


def state_after(state, wind):
    """The index of the state that follows, None for what is no wind of this state."""
    if is_whole(wind):
        for told, following in state:
            if told == wind:
                return following
    return None


def comes_known(weather, figures, place, goal, many):
    need_known(weather, figures, place, goal, many)
    return word_and_side(weather, figures, place, goal, many) is None


def barring_word(weather, figures, place, goal, many):
    need_known(weather, figures, place, goal, many)
    return word_and_side(weather, figures, place, goal, many)


def need_known(weather, figures, place, goal, many):
    need_weather(weather)
    need_figures(figures, weather)
    need_point(place)
    need_polygon(goal)
    need_many(many)


def word_and_side(weather, figures, place, goal, many):
    """A word that does not lead to the goal, and a side that parts what it leads to from the goal; None if none."""
    against = shape_opposite(goal)
    used = figures[:figures_wanted(weather)]
    for polygon in used + (against,):
        for a, b, _ in shape_sides(polygon):
            costs = [shape_support(figure, a, b) for figure in used]
            total, word = cheapest_word(weather, costs, many)
            reach = ratio_sum(along(a, b, place), total)
            if is_less(ratio_sum(reach, shape_support(against, a, b)), ZERO):
                return (word, side_of(a, b, reach))
    return None


def cheapest_word(weather, costs, many):
    """The least sum of the costs of the winds of a word of so many hours, and such a word."""
    rows = [(ZERO, ()) for state in weather]
    for _ in range(many):
        rows = [cheapest_from(state, costs, rows) for state in weather]
    return rows[0]


def cheapest_from(state, costs, rows):
    best, chosen = None, ()
    for wind, following in state:
        rest, word = rows[following]
        total = ratio_sum(costs[wind], rest)
        if best is None or is_less(total, best):
            best, chosen = total, (wind,) + word
    return (best, chosen)
