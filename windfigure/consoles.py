"""Consoles: a workshop by lines of text."""
from windfigure.boats import first_missed
from windfigure.errors import InvalidPhrase, NotAWorkshop
from windfigure.exact import NOUGHT
from windfigure.figures import time_by_sides
from windfigure.points import is_point
from windfigure.shapes import shape_hull, shape_sides
from windfigure.wishes import is_name
from windfigure.workshops import Workshop

DONE = "done"


def whole_in(text):
    """The whole number that str writes so, None if there is none."""
    digits = text.removeprefix("-")
    if digits == "" or not all(["0" <= digit <= "9" for digit in digits]):
        return None
    number = int(text)
    if str(number) != text:
        return None
    return number


def point_in(text):
    """The point of this text, None if it is no text of one."""
    point = tuple([whole_in(part) for part in text.split(" ")])
    if not is_point(point):
        return None
    return point


def points_in(text):
    """The points of this text, None if it is no text of some."""
    points = [point_in(part) for part in text.split("; ")]
    if None in points:
        return None
    return points


def text_of(point):
    x, y, w = point
    return f"{x} {y} {w}"


# Each of the following functions gets what stands behind the line's first word and its blank; None stands for what is
# not of the form.

def put_answer(shop, rest):
    name, _, text = rest.partition(": ")
    points = points_in(text)
    if not is_name(name) or points is None:
        return None
    figure = shape_hull(points + [NOUGHT])
    if len(figure) < 3:
        return None
    shop.put(name, figure)
    return DONE


def drop_answer(shop, name):
    if not is_name(name):
        return None
    shop.drop(name)
    return DONE


def figure_answer(shop, name):
    if not is_name(name):
        return None
    return "; ".join([text_of(corner) for corner in shop.named(name)])


def time_answer(shop, rest):
    name, _, text = rest.partition(": ")
    way = point_in(text)
    if not is_name(name) or way is None:
        return None
    time = time_by_sides(shape_sides(shop.named(name)), way)
    if time is None:
        return "endless"
    top, bottom = time
    return f"{top}/{bottom}"


def later_answer(shop, rest):
    name, _, other = rest.partition(": ")
    if not is_name(name) or not is_name(other):
        return None
    figure = shop.named(name)
    way = first_missed(figure, shop.named(other))
    if way is None:
        return "never"
    return text_of(way)


ANSWERS = {"put": put_answer, "drop": drop_answer, "figure": figure_answer, "time": time_answer, "later": later_answer}


def answer_to_line(shop, line):
    """The answer to a line, None if it is of no form."""
    if line == "undo":
        shop.undo()
        return DONE
    if line == "names":
        return " ".join(shop.names) or "none"
    word, _, rest = line.partition(" ")
    if word not in ANSWERS:
        return None
    answer = ANSWERS[word]
    return answer(shop, rest)


class Console:
    def __init__(self, shop):
        if not isinstance(shop, Workshop):
            raise NotAWorkshop(shop)
        self.shop = shop

    def say(self, line):
        if isinstance(line, str):
            answer = answer_to_line(self.shop, line)
            if answer is not None:
                return answer
        raise InvalidPhrase(line)
