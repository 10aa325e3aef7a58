"""The console of [54]: lines of text, their answers, and what is no line."""
import random
import re
import unittest
from math import gcd

from tests.helpers import ANY, Odd, check_raised, random_figure, random_point, slow_hull, slow_time, told_time
from tests.test_workshops import check_refused, shop_with, state_of
from tests.wrong import BOX, DIAMOND, KITE, NOT_NAME, WEDGE
from windfigure.boats import parting_way
from windfigure.consoles import Console
from windfigure.errors import Broken, InUse, InvalidPhrase, NotAWorkshop, NothingToUndo, UnknownName
from windfigure.workshops import Workshop

GULL = "put gull: 3 0 1; 1 2 1; 1 -2 1; -1 0 1"
TERN = ((0, 0, 1), (2, 0, 1), (0, 2, 1))


def text_of(point):
    return " ".join(map(str, point))


def console_with(**figures):
    shop = shop_with(**figures)
    return shop, Console(shop)


class Answers(unittest.TestCase):
    def test_examples(self):
        shop = Workshop()
        console = Console(shop)
        lines = [GULL, "put tern: 2 0 1; 0 2 1", "names", "figure tern", "time gull: 6 0 1", "time tern: -1 0 1",
                 "later gull: tern"]
        self.assertEqual([console.say(line) for line in lines],
                         ["done", "done", "gull tern", "0 0 1; 2 0 1; 0 2 1", "2/1", "endless", "0 2 1"])
        shop.wish(("in time", "gull", (6, 0, 1), (2, 1)))
        check_refused(self, shop, Broken, "index", 0, console.say, "put gull: 2 0 1; 0 2 1")
        self.assertEqual([shop.named("gull"), shop.named("tern")], [KITE, TERN])

    def test_put(self):
        shop, console = console_with()
        self.assertEqual(console.say("put a: 1 0 1; 0 1 1"), "done")
        self.assertEqual(shop.named("a"), ((0, 0, 1), (1, 0, 1), (0, 1, 1)))
        self.assertEqual(console.say(line="put abcdefghijkl: 1 0 2; -1 -1 3; 0 1 1; 0 0 1; 0 0 1; 1 0 2"), "done")
        self.assertEqual(shop.named("abcdefghijkl"), ((-1, -1, 3), (1, 0, 2), (0, 1, 1)))
        self.assertEqual(console.say("put a: 0 -1 1; -1 0 1"), "done")
        self.assertEqual((shop.named("a"), len(shop)), (((-1, 0, 1), (0, -1, 1), (0, 0, 1)), 3))
        big = 10 ** 39
        self.assertEqual(console.say(f"put b: {big} 1 7; 1 -{big} {big - 1}"), "done")
        self.assertEqual(shop.named("b"), slow_hull([(0, 0, 1), (big, 1, 7), (1, -big, big - 1)]))
        self.assertEqual(console.say("put none: 1 0 1; 0 1 1"), "done")
        self.assertEqual(console.say("names"), "a abcdefghijkl b none")

    def test_points_without_an_area(self):
        shop, console = console_with(gull=KITE)
        shop.wish(("all winds", "gull", ((1, 0, 1),)))
        for text in ("0 0 1", "1 0 1", "1 0 1; 2 0 1", "1 1 1; -1 -1 1; 0 0 1", "1 2 3; 1 2 3", "1 0 1; 1 0 2; -7 0 3"):
            for name in ("gull", "tern"):
                line = "put " + name + ": " + text
                check_refused(self, shop, InvalidPhrase, "given", line, console.say, line)

    def test_drop_and_undo(self):
        shop, console = console_with(gull=KITE, tern=WEDGE)
        self.assertEqual(console.say("drop tern"), "done")
        self.assertEqual(console.say("undo"), "done")
        self.assertEqual(shop.names, ("gull", "tern"))
        shop.wish(("all winds", "gull", ((1, 0, 1),)))
        check_refused(self, shop, InUse, "index", 0, console.say, "drop gull")
        for _ in range(3):
            self.assertEqual(console.say("undo"), "done")
        self.assertEqual(console.say("names"), "none")
        check_refused(self, shop, NothingToUndo, None, None, console.say, "undo")

    def test_figures_times_and_later(self):
        shop, console = console_with(gull=KITE, tern=WEDGE, dove=DIAMOND, box=BOX)
        before = state_of(shop)
        self.assertEqual(console.say("figure gull"), "-1 0 1; 1 -2 1; 3 0 1; 1 2 1")
        self.assertEqual(console.say("time gull: 0 0 1"), "0/1")
        self.assertEqual(console.say("time gull: -1 2 3"), "1/1")
        self.assertEqual(console.say("time dove: 1 -2 7"), "3/7")
        self.assertEqual(console.say("time tern: 1 2 1"), "endless")
        self.assertEqual(console.say("later gull: dove"), "never")
        self.assertEqual(console.say("later dove: gull"), "1 -2 1")
        self.assertEqual(console.say("later tern: tern"), "never")
        self.assertEqual(console.say("later tern: dove"), "-1 0 1")
        self.assertEqual(console.say("later box: tern"), "never")
        self.assertEqual(state_of(shop), before)

    def test_names_that_are_not_here(self):
        shop, console = console_with(gull=KITE)
        for line, name in (("drop tern", "tern"), ("figure tern", "tern"), ("time tern: 1 0 1", "tern"),
                           ("later tern: dove", "tern"), ("later gull: dove", "dove"), ("later dove: gull", "dove"),
                           ("drop names", "names")):
            with self.assertRaises(UnknownName) as caught:
                console.say(line)
            self.assertEqual(caught.exception.given, name)
        # Whatever is wrong with the line's form comes first.
        for line in ("time tern: 2 0 2", "time tern:", "later tern: Dove", "drop tern ", "later tern: gull: gull"):
            check_refused(self, shop, InvalidPhrase, "given", line, console.say, line)

    def test_one_shop_and_two_consoles(self):
        shop, console = console_with()
        other = Console(shop=shop)
        self.assertTrue(console != other and console == console and console)
        self.assertEqual(console.say("put a: 1 0 1; 0 1 1"), "done")
        shop.put("b", KITE)
        self.assertEqual(other.say("names"), "a b")
        self.assertEqual(other.say("undo"), "done")
        self.assertEqual(console.say("names"), "a")

    def test_random_ones(self):
        rng = random.Random(1)
        for _ in range(60):
            one, two = random_figure(rng), random_figure(rng)
            shop, console = console_with()
            corners = list(one) + [corner for corner in one if rng.random() < 0.3]
            rng.shuffle(corners)
            line = "put one: " + "; ".join(map(text_of, corners))
            self.assertEqual([console.say(line), console.say("put two: " + "; ".join(map(text_of, two)))], ["done"] * 2)
            self.assertEqual([shop.named("one"), shop.named("two")], [one, two])
            self.assertEqual(console.say("figure one"), "; ".join(map(text_of, one)))
            way = random_point(rng)
            time = told_time(slow_time(one, way))
            self.assertEqual(console.say("time one: " + text_of(way)),
                             "endless" if time is None else "/".join(map(str, time)))
            parting = parting_way(one, two)
            self.assertEqual(console.say("later one: two"), "never" if parting is None else text_of(parting))


NUMBERS = ["+1", "01", "-0", "00", "1.0", "1e3", "0x1", "1_0", "", "-", "--1", "- 1", "a", "1-", "(1)", "1,", "True"]
RIGHT = [GULL, "put tern: 2 0 1; 0 2 1", "drop gull", "undo", "names", "figure gull", "time gull: 6 0 1",
         "later gull: gull"]


def bent_lines():
    found = ["", " ", "put", "drop", "figure", "time", "later", "Undo", "UNDO", "undo undo", "names gull", "undo gull",
             "drop gull gull", "drop: gull", "figure: gull", "figure gull gull", "figure", "figure ", "drop ", "time gull",
             "time gull:", "time gull: ", "time gull 6 0 1", "time gull:6 0 1", "time gull : 6 0 1", "time gull: 6 0",
             "time gull: 6 0 1 1", "time gull: 6 0 1; 6 0 1", "time gull: 6; 0; 1", "time gull: 6,0,1", "time: 6 0 1",
             "time gull: 2 0 2", "time gull: 0 0 2", "time gull: 6 0 0", "time gull: 6 0 -1", "time gull: (6, 0, 1)",
             "later gull", "later gull:", "later gull: ", "later gull gull", "later gull:gull", "later gull : gull",
             "later gull: gull: gull", "later: gull", "later gull; gull", "put gull", "put gull:", "put gull: ",
             "put gull 1 0 1; 0 1 1", "put gull: 1 0 1;0 1 1", "put gull: 1 0 1 ; 0 1 1", "put gull: 1 0 1; 0 1 1;",
             "put gull: 1 0 1; 0 1 1; ", "put gull: 1 0 1;  0 1 1", "put gull: ; 1 0 1; 0 1 1", "put gull: 1 0 1, 0 1 1",
             "put gull: 1 0 1; 0 1", "put gull: 2 0 2; 0 1 1", "put gull: 1 0 1; 0 1 0", "put gull: 1 0 1; 0 1 -1",
             "put gull: 1 0 1; ; 0 1 1", "put: 1 0 1; 0 1 1", "put gull: 1 0 1; 0 1 1: 1 0 1", "put gull:: 1 0 1; 0 1 1",
             "put gull tern: 1 0 1; 0 1 1", "help", "wish gull", "lift 0", "named gull", "put\tgull: 1 0 1; 0 1 1",
             "names\n", "undo\n", "names;", "gull", "dropgull", "putgull: 1 0 1; 0 1 1", "nam", "name", "nameS"]
    for line in RIGHT:
        found += [line + " ", " " + line, line + "\n", line + ";", line.upper(), line.capitalize(), line + "x:", line * 2]
        found += [line.replace(" ", "  ", 1) if " " in line else line + "  ", line.replace(" ", "\t", 1) + "\t"]
    for number in NUMBERS:
        for at in range(3):
            point = ["1", "2", "3"]
            point[at] = number
            found += ["time gull: " + " ".join(point), "put gull: 1 0 1; 0 1 1; " + " ".join(point)]
    for name in NOT_NAME:
        if isinstance(name, str):
            found += ["drop " + name, "figure " + name, "time " + name + ": 1 0 1", "later " + name + ": gull",
                      "later gull: " + name, "put " + name + ": 1 0 1; 0 1 1"]
    return found


NAME, WHOLE = "[a-z]{1,12}", "(?:0|-?[1-9][0-9]*)"
POINT = f"{WHOLE} {WHOLE} {WHOLE}"
FORMS = [f"put {NAME}: ({POINT}(?:; {POINT})*)", f"drop {NAME}", "undo", "names", f"figure {NAME}",
         f"time {NAME}: ({POINT})", f"later {NAME}: {NAME}"]


def is_line(line):
    """Whether a line is of a form, and its points are points, with an area if they are put."""
    for form in FORMS:
        match = re.fullmatch(form, line)
        if match:
            points = [tuple(map(int, text.split())) for text in match.group(1).split("; ")] if match.groups() else []
            if not all(w > 0 and gcd(x, y, w) == 1 for x, y, w in points):
                return False
            return not line.startswith("put") or len(slow_hull([(0, 0, 1)] + points)) > 2
    return False


class Wrong(unittest.TestCase):
    def test_one_sign_too_many_or_too_few(self):
        seen = {True: 0, False: 0}
        for line in RIGHT:
            bent = [line[:at] + line[at + 1:] for at in range(len(line))]
            bent += [line[:at] + sign + line[at:] for at in range(len(line) + 1) for sign in " 01-+:;ag\n.,"]
            bent += [line[:at] + sign + line[at + 1:] for at in range(len(line)) for sign in " 02-:;bA"]
            for it in bent:
                shop, console = console_with(gull=KITE)
                seen[is_line(it)] += 1
                if is_line(it):
                    try:
                        self.assertIsInstance(console.say(it), str)
                    except UnknownName as error:
                        self.assertIn(error.given, it)
                else:
                    check_refused(self, shop, InvalidPhrase, "given", it, console.say, it)
        self.assertGreater(min(seen.values()), 100, seen)

    def test_right_lines(self):
        for line in RIGHT:
            shop, console = console_with(gull=KITE)
            self.assertIsInstance(console.say(line), str)

    def test_lines_of_no_form(self):
        shop, console = console_with(gull=KITE, tern=BOX)
        shop.wish(("all winds", "gull", ((1, 0, 1),)))
        for line in bent_lines():
            check_refused(self, shop, InvalidPhrase, "given", line, console.say, line)
            check_refused(self, shop, InvalidPhrase, "given", line, console.say, line=line)

    def test_no_strings(self):
        shop, console = console_with(gull=KITE)
        for value in ANY + [("names",), ["names"], b"names", b"undo", Odd()]:
            check_refused(self, shop, InvalidPhrase, "given", value, console.say, value)

    def test_long_lines(self):
        shop, console = console_with(gull=KITE)
        for line in ("drop " + "a" * 3995, "put a: " + "1 0 1; " * 500, "time gull: " + "1" * 3000 + " 0 1x",
                     " " * 4000, "names" + " " * 3000):
            check_refused(self, shop, InvalidPhrase, "given", line, console.say, line)
        self.assertEqual(console.say("put a: " + "; ".join(["1 0 1", "0 1 1"] * 250)), "done")

    def test_no_workshops(self):
        for value in ANY + [Odd(), Workshop, Console(Workshop()), "shop", KITE]:
            check_raised(self, NotAWorkshop, "given", value, Console, value)
            check_raised(self, NotAWorkshop, "given", value, Console, shop=value)


if __name__ == "__main__":
    unittest.main()
