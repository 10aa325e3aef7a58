"""[54], [3] and [4]: workshops, their wishes, undoing, and trials."""
import random
import unittest
from fractions import Fraction

from tests.helpers import (NOT_FIGURE, Odd, check_raised, in_hull, inside_hull, num, pt, random_figure, random_point,
                           slow_hull, slow_time, spot)
from tests.slow import SOME_DIRECTIONS, meeting_of_lines, random_course, slow_square, slow_word
from tests.wrong import BOX, DIAMOND, KITE, NOT_NAME, NOT_WISH, WEDGE, WISHES
from windfigure.errors import (Broken, InUse, InvalidFigure, InvalidIndex, InvalidName, InvalidWish, NothingToUndo,
                               UnknownName, WindError)
from windfigure.races import race
from windfigure.workshops import Workshop

EAST = ((1, 0, 1),)
SMALL = ((-1, 0, 9), (0, -1, 9), (1, 0, 9), (0, 1, 9))
WIDE = ((-5, -5, 1), (5, -5, 1), (5, 5, 1), (-5, 5, 1))
NO_INDEX = [value for value in NOT_NAME if type(value) is not int or value == -7] + [-1, -2, 10 ** 30]


def shop_with(**figures):
    shop = Workshop()
    for name, figure in figures.items():
        shop.put(name, figure)
    return shop


def state_of(shop):
    return (shop.names, [shop.named(name) for name in shop.names], shop.wishes, len(shop))


def check_refused(test, shop, error, attribute, told, call, *arguments, **named):
    """The error is raised, and nothing has changed then."""
    before = state_of(shop)
    if attribute is None:
        with test.assertRaises(error) as caught:
            call(*arguments, **named)
        test.assertIs(type(caught.exception), error)
        test.assertEqual(vars(caught.exception), {})
    else:
        check_raised(test, error, attribute, told, call, *arguments, **named)
    test.assertEqual(state_of(shop), before)


class Names(unittest.TestCase):
    def test_put_and_named(self):
        shop = Workshop()
        self.assertEqual((shop.names, shop.wishes, len(shop)), ((), (), 0))
        self.assertIsNone(shop.put("tern", WEDGE))
        self.assertIsNone(shop.put(name="gull", figure=KITE))
        self.assertEqual(shop.names, ("gull", "tern"))
        self.assertEqual([shop.named("gull"), shop.named(name="tern")], [KITE, WEDGE])
        self.assertEqual(len(shop), 2)
        shop.put("gull", BOX)
        self.assertEqual((shop.names, shop.named("gull"), len(shop)), (("gull", "tern"), BOX, 3))
        # The same once more is a change, too.
        shop.put("gull", BOX)
        self.assertEqual((shop.named("gull"), len(shop)), (BOX, 4))

    def test_names_of_one_to_twelve_letters(self):
        shop = Workshop()
        for name in ("a", "z", "abcdefghijkl", "zzzzzzzzzzzz", "gull", "none", "put"):
            shop.put(name, KITE)
            self.assertIs(name in shop, True)
        self.assertEqual(shop.names, ("a", "abcdefghijkl", "gull", "none", "put", "z", "zzzzzzzzzzzz"))
        for name in NOT_NAME:
            check_refused(self, shop, InvalidName, "given", name, shop.put, name, BOX)
            check_refused(self, shop, InvalidName, "given", name, shop.put, name=name, figure=None)
            check_refused(self, shop, UnknownName, "given", name, shop.drop, name)
            check_refused(self, shop, UnknownName, "given", name, shop.named, name=name)
            self.assertIs(name in shop, False)

    def test_wrong_figures_and_unknown_names(self):
        shop = shop_with(gull=KITE)
        for figure in NOT_FIGURE:
            check_refused(self, shop, InvalidFigure, "given", figure, shop.put, "tern", figure)
            check_refused(self, shop, InvalidFigure, "given", figure, shop.put, figure=figure, name="gull")
        for call in (shop.drop, shop.named):
            check_refused(self, shop, UnknownName, "given", "tern", call, "tern")
        self.assertIs("tern" in shop, False)
        self.assertIs("gull" in shop, True)

    def test_drop(self):
        shop = shop_with(gull=KITE, tern=WEDGE)
        self.assertIsNone(shop.drop("gull"))
        self.assertEqual((shop.names, len(shop)), (("tern",), 3))
        check_refused(self, shop, UnknownName, "given", "gull", shop.named, "gull")
        shop.drop(name="tern")
        self.assertEqual((shop.names, len(shop)), ((), 4))

    def test_values(self):
        one, two = Workshop(), Workshop()
        self.assertTrue(one)
        self.assertIs(bool(shop_with(gull=KITE)), True)
        self.assertTrue(one == one and not one != one)
        self.assertTrue(one != two and not one == two)
        for value in (None, 0, (), "", "gull", object(), [], {}):
            self.assertFalse(one == value)
            self.assertTrue(one != value)
        for value in NOT_NAME + [Odd(), (), one, Workshop]:
            self.assertIs(value in one, False)

    def test_what_was_told_does_not_change(self):
        shop = shop_with(gull=KITE)
        names, wishes = shop.names, shop.wishes
        shop.put("tern", WEDGE)
        shop.wish(("all winds", "gull", EAST))
        self.assertEqual((names, wishes), (("gull",), ()))
        self.assertEqual(shop.wishes, (("all winds", "gull", EAST),))


class Wishes(unittest.TestCase):
    def test_all_kinds_that_hold_and_that_would_not(self):
        near = 10 ** 20
        rows = [
            (("in time", "gull", (6, 0, 1), (2, 1)), ("in time", "gull", (6, 0, 1), (2 * near - 1, near))),
            (("in time", "gull", (0, 0, 1), (0, 1)), ("in time", "gull", (1, 0, near), (0, 1))),
            (("in time", "tern", (2, 1, 1), (2, 1)), ("in time", "tern", (-1, 0, near), (near, 1))),
            (("never later", "gull", "dove"), ("never later", "dove", "gull")),
            (("never later", "tern", "tern"), ("never later", "tern", "gull")),
            (("never behind", "box", EAST, "dove", EAST), ("never behind", "dove", EAST, "box", EAST)),
            (("never behind", "dove", EAST, "tern", ((3, 0, 1),)), ("never behind", "tern", EAST, "box", EAST)),
            (("all winds", "gull", ((1, 2, 3), (-5, 0, 1))), ("all winds", "tern", EAST)),
            (("catches", "wide", "gull"), ("catches", "gull", "wide")),
            (("catches", "gull", "small"), ("catches", "gull", "gull")),
            (("catches", "box", "small"), ("catches", "dove", "box")),
            (("holds off", "tern", (-1, 0, 1), ((1, 0, 9),)), ("holds off", "tern", (1, 0, near), ((1, 0, 9),))),
            (("holds off", "box", (1, 1, 1), ((1, 0, 9), (0, 1, 9))), ("holds off", "box", (2, 1, 1), ((1, 0, 9),))),
        ]
        shop = shop_with(gull=KITE, tern=WEDGE, dove=DIAMOND, box=BOX, wide=WIDE, small=SMALL)
        for holding, failing in rows:
            before = len(shop)
            self.assertIsNone(shop.wish(holding))
            self.assertEqual((shop.wishes[-1], len(shop)), (holding, before + 1))
            check_refused(self, shop, Broken, "index", len(shop.wishes), shop.wish, failing)
            check_refused(self, shop, Broken, "index", len(shop.wishes), shop.wish, wish=failing)
        self.assertEqual(shop.wishes, tuple(holding for holding, failing in rows))
        # The same wish may stand twice.
        shop.wish(wish=rows[3][0])
        self.assertEqual(shop.wishes[-1], shop.wishes[3])

    def test_unknown_names(self):
        shop = shop_with(gull=KITE)
        # Each would not hold either; the names are looked at first, in their order.
        for wish, name in ((("in time", "tern", (9, 0, 1), (0, 1)), "tern"), (("never later", "gull", "tern"), "tern"),
                           (("never later", "tern", "gull"), "tern"), (("never later", "dove", "tern"), "dove"),
                           (("never behind", "gull", EAST, "tern", EAST), "tern"),
                           (("never behind", "dove", EAST, "tern", EAST), "dove"), (("all winds", "tern", EAST), "tern"),
                           (("catches", "gull", "dove"), "dove"), (("catches", "dove", "tern"), "dove"),
                           (("holds off", "tern", (0, 0, 1), ((1, 0, 1),)), "tern")):
            check_refused(self, shop, UnknownName, "given", wish[wish.index(name)], shop.wish, wish)

    def test_no_wishes(self):
        shop = shop_with(gull=KITE, tern=SMALL)
        for wish in NOT_WISH:
            check_refused(self, shop, InvalidWish, "given", wish, shop.wish, wish)
        for wish in WISHES[:2]:
            shop.wish(wish=wish)
        self.assertEqual(shop.wishes, WISHES[:2])

    def test_all_forms_are_wishes(self):
        shop = shop_with(gull=WIDE, tern=SMALL)
        for wish in WISHES:
            shop.wish(wish)
        self.assertEqual(shop.wishes, WISHES)

    def test_lift(self):
        shop = shop_with(gull=KITE, tern=SMALL)
        for wish in WISHES[:4]:
            shop.wish(wish)
        for index in NO_INDEX + [4, 5]:
            check_refused(self, shop, InvalidIndex, "given", index, shop.lift, index)
        self.assertIsNone(shop.lift(1))
        self.assertEqual(shop.wishes, (WISHES[0], WISHES[2], WISHES[3]))
        shop.lift(index=2)
        shop.lift(0)
        self.assertEqual(shop.wishes, (WISHES[2],))
        for index in (True, False, 1, -1):
            check_refused(self, shop, InvalidIndex, "given", index, shop.lift, index=index)
        shop.lift(0)
        self.assertEqual((shop.wishes, len(shop)), ((), 10))
        check_refused(self, shop, InvalidIndex, "given", 0, shop.lift, 0)

    def test_a_put_that_would_break_a_wish(self):
        shop = shop_with(gull=KITE, tern=SMALL, dove=DIAMOND)
        shop.wish(("never later", "gull", "tern"))
        shop.wish(("in time", "gull", (3, 0, 1), (1, 1)))
        shop.wish(("catches", "dove", "tern"))
        shop.wish(("all winds", "gull", EAST))
        check_refused(self, shop, Broken, "index", 1, shop.put, "gull", DIAMOND)
        check_refused(self, shop, Broken, "index", 0, shop.put, "gull", WEDGE)
        check_refused(self, shop, Broken, "index", 0, shop.put, "tern", WIDE)
        check_refused(self, shop, Broken, "index", 2, shop.put, "tern", DIAMOND)
        check_refused(self, shop, Broken, "index", 2, shop.put, "dove", SMALL)
        shop.lift(1)
        shop.put("gull", DIAMOND)
        shop.put("gull", WIDE)
        shop.lift(0)
        check_refused(self, shop, Broken, "index", 1, shop.put, "gull", WEDGE)
        # No wish names it.
        shop.put("lark", WEDGE)
        self.assertEqual(shop.names, ("dove", "gull", "lark", "tern"))

    def test_names_in_use(self):
        shop = shop_with(gull=KITE, tern=SMALL, dove=DIAMOND, lark=WEDGE)
        shop.wish(("all winds", "gull", EAST))
        shop.wish(("never later", "gull", "tern"))
        shop.wish(("never behind", "gull", EAST, "dove", EAST))
        check_refused(self, shop, InUse, "index", 0, shop.drop, "gull")
        check_refused(self, shop, InUse, "index", 1, shop.drop, "tern")
        check_refused(self, shop, InUse, "index", 2, shop.drop, name="dove")
        shop.drop("lark")
        shop.lift(1)
        shop.drop("tern")
        check_refused(self, shop, InUse, "index", 1, shop.drop, "dove")
        self.assertEqual(shop.names, ("dove", "gull"))


class Undoing(unittest.TestCase):
    def test_each_kind_all_the_way_back(self):
        shop = Workshop()
        steps = [lambda: shop.put("gull", KITE), lambda: shop.put("tern", SMALL), lambda: shop.put("gull", WIDE),
                 lambda: shop.wish(("catches", "gull", "tern")), lambda: shop.wish(("all winds", "tern", EAST)),
                 lambda: shop.lift(0), lambda: shop.put("lark", WEDGE), lambda: shop.drop("gull")]
        states = []
        for step in steps:
            states.append(state_of(shop))
            step()
        last = state_of(shop)
        for state in reversed(states):
            self.assertIsNone(shop.undo())
            self.assertEqual(state_of(shop), state)
        check_refused(self, shop, NothingToUndo, None, None, shop.undo)
        for step in steps:
            step()
        self.assertEqual(state_of(shop), last)

    def test_errors_are_no_changes(self):
        shop = shop_with(gull=KITE)
        for call, arguments in ((shop.put, ("1", KITE)), (shop.put, ("gull", None)), (shop.drop, ("x",)),
                                (shop.wish, (None,)), (shop.wish, (("in time", "gull", (9, 0, 1), (1, 1)),)),
                                (shop.lift, (0,)), (shop.named, ("x",))):
            with self.assertRaises(WindError):
                call(*arguments)
        self.assertEqual(len(shop), 1)
        shop.undo()
        self.assertEqual((shop.names, len(shop)), ((), 0))
        check_refused(self, shop, NothingToUndo, None, None, shop.undo)

    def test_undone_changes_may_be_made_anew(self):
        shop = shop_with(gull=KITE)
        shop.put("gull", BOX)
        shop.undo()
        self.assertEqual(shop.named("gull"), KITE)
        shop.wish(("in time", "gull", (3, 0, 1), (1, 1)))
        check_refused(self, shop, Broken, "index", 0, shop.put, "gull", BOX)
        shop.undo()
        shop.put("gull", BOX)
        self.assertEqual((shop.wishes, len(shop)), ((), 2))


class Oddity(Exception):
    pass


class Trials(unittest.TestCase):
    def test_that_end_well(self):
        shop = shop_with(gull=KITE)
        with shop.trial() as held:
            self.assertIs(held, shop)
            held.put("tern", WEDGE)
            held.wish(("all winds", "gull", EAST))
        self.assertEqual((shop.names, len(shop)), (("gull", "tern"), 3))
        shop.undo()
        self.assertEqual((shop.wishes, len(shop)), ((), 2))
        with shop.trial():
            pass
        self.assertEqual(len(shop), 2)

    def test_that_end_with_an_exception(self):
        for error in (Oddity, WindError, KeyError, KeyboardInterrupt, GeneratorExit):
            shop = shop_with(gull=KITE, tern=SMALL)
            shop.wish(("catches", "gull", "tern"))
            before = state_of(shop)
            with self.assertRaises(error):
                with shop.trial():
                    shop.put("lark", WEDGE)
                    shop.lift(0)
                    shop.drop("tern")
                    raise error()
            self.assertEqual(state_of(shop), before)
            # What could be undone before can be so still.
            for _ in range(3):
                shop.undo()
            check_refused(self, shop, NothingToUndo, None, None, shop.undo)

    def test_errors_of_the_package(self):
        shop = shop_with(gull=KITE)
        before = state_of(shop)
        with self.assertRaises(Broken) as caught:
            with shop.trial():
                shop.wish(("in time", "gull", (3, 0, 1), (1, 1)))
                shop.put("gull", BOX)
        self.assertEqual(caught.exception.index, 0)
        self.assertEqual(state_of(shop), before)
        # An error that is caught within the block ends nothing.
        with shop.trial():
            shop.put("tern", BOX)
            with self.assertRaises(UnknownName):
                shop.drop("lark")
        self.assertEqual(shop.names, ("gull", "tern"))

    def test_changes_from_before_undone_within(self):
        shop = shop_with(gull=KITE, tern=BOX)
        before = state_of(shop)
        with self.assertRaises(Oddity):
            with shop.trial():
                shop.undo()
                shop.undo()
                self.assertEqual(state_of(shop), ((), [], (), 0))
                shop.put("lark", WEDGE)
                raise Oddity()
        self.assertEqual(state_of(shop), before)
        with shop.trial():
            shop.undo()
            shop.put("lark", WEDGE)
            shop.undo()
            shop.undo()
        self.assertEqual((shop.names, len(shop)), ((), 0))
        with self.assertRaises(NothingToUndo):
            with shop.trial():
                shop.put("gull", KITE)
                shop.undo()
                shop.undo()
        self.assertEqual((shop.names, len(shop)), ((), 0))

    def test_within_trials(self):
        shop = shop_with(gull=KITE)
        with shop.trial():
            shop.put("tern", BOX)
            with self.assertRaises(Oddity):
                with shop.trial() as inner:
                    inner.put("lark", WEDGE)
                    inner.drop("gull")
                    raise Oddity()
            self.assertEqual((shop.names, len(shop)), (("gull", "tern"), 2))
            with shop.trial():
                shop.put("dove", DIAMOND)
        self.assertEqual((shop.names, len(shop)), (("dove", "gull", "tern"), 3))
        before = state_of(shop)
        with self.assertRaises(Oddity):
            with shop.trial():
                with shop.trial():
                    shop.drop("gull")
                shop.drop("dove")
                raise Oddity()
        self.assertEqual(state_of(shop), before)

    def test_the_same_object_again_and_within_itself(self):
        shop = shop_with(gull=KITE)
        trial = shop.trial()
        shop.put("tern", BOX)
        # It begins when its block begins.
        with self.assertRaises(Oddity):
            with trial:
                shop.put("lark", WEDGE)
                raise Oddity()
        self.assertEqual(shop.names, ("gull", "tern"))
        with self.assertRaises(Oddity):
            with trial:
                shop.put("lark", WEDGE)
                with trial as held:
                    self.assertIs(held, shop)
                    shop.put("dove", WEDGE)
                self.assertEqual(shop.names, ("dove", "gull", "lark", "tern"))
                raise Oddity()
        self.assertEqual(shop.names, ("gull", "tern"))

    def test_made_and_not_entered(self):
        shop = shop_with(gull=KITE)
        before = state_of(shop)
        self.assertTrue(shop.trial() != shop.trial())
        self.assertEqual(state_of(shop), before)

    def test_left_by_return_and_break(self):
        shop = Workshop()

        def put_one():
            with shop.trial():
                shop.put("gull", KITE)
                return 7
        self.assertEqual(put_one(), 7)
        for _ in range(2):
            with shop.trial():
                shop.put("tern", KITE)
                break
        self.assertEqual((shop.names, len(shop)), (("gull", "tern"), 2))

    def test_tried(self):
        shop = shop_with(gull=KITE)
        told = []
        self.assertEqual(shop.tried(lambda held: (held.put("tern", BOX), told.append(held), "seven")[-1]), "seven")
        self.assertIs(told[0], shop)
        self.assertIsNone(shop.tried(action=lambda held: held.undo()))
        self.assertEqual((shop.names, len(shop)), (("gull",), 1))

        def fail(held):
            held.put("tern", BOX)
            held.undo()
            held.undo()
            raise Oddity("odd")
        before = state_of(shop)
        with self.assertRaises(Oddity) as caught:
            shop.tried(fail)
        self.assertEqual((str(caught.exception), state_of(shop)), ("odd", before))
        with self.assertRaises(InvalidName):
            shop.tried(lambda held: (held.drop("gull"), held.put("", BOX)))
        self.assertEqual(state_of(shop), before)
        self.assertEqual(shop.tried(lambda held: held.tried(lambda inner: inner.named("gull"))), KITE)
        with self.assertRaises(Oddity):
            shop.tried(lambda held: (held.put("lark", BOX), held.tried(fail)))
        self.assertEqual(state_of(shop), before)


def slow_can_hold_off(figure, stream, shores):
    """Whether nought, a corner or a crossing of an edge with the line of a shore through nought holds off all."""
    (s, t), spots = spot(stream), [spot(corner) for corner in figure]
    spots = [(x + s, y + t) for x, y in spots]
    found = spots + [(Fraction(0), Fraction(0))] * in_hull((Fraction(0), Fraction(0)), spots)
    for a, b, _ in shores:
        for one, two in zip(spots, spots[1:] + spots[:1]):
            found += meeting_of_lines(one, two, a, b)
    return any(all(a * x + b * y <= 0 for a, b, _ in shores) for x, y in found)


def slow_holds(wish, figures):
    word, one = wish[0], figures[wish[1]]
    spots = [spot(corner) for corner in one]
    if word == "in time":
        time = slow_time(one, wish[2])
        return time is not None and time <= num(wish[3])
    if word == "never later":
        return all(in_hull(spot(corner), spots) for corner in figures[wish[2]])
    if word == "catches":
        return all(inside_hull(spot(corner), spots) for corner in figures[wish[2]])
    if word == "all winds":
        return inside_hull((0, 0), spots)
    if word == "holds off":
        return slow_can_hold_off(one, wish[2], wish[3])
    other = figures[wish[3]]
    words = {found for arc, found in race(one, wish[2], other, wish[4])}
    tried = {slow_word(slow_square(one, wish[2], wind), slow_square(other, wish[4], wind))
             for wind in SOME_DIRECTIONS[::7]}
    assert tried <= words
    return "other" not in words


def random_wish(rng):
    word = rng.choice(("in time", "never later", "never behind", "all winds", "catches", "holds off"))
    one, two = rng.choice("abcd"), rng.choice("abcd")
    if word == "in time":
        return (word, one, random_point(rng, 2), (rng.randint(0, 4), 1))
    if word in ("never later", "catches"):
        return (word, one, two)
    if word == "never behind":
        return (word, one, random_course(rng, 2), two, random_course(rng, 2))
    if word == "all winds":
        return (word, one, random_course(rng, 2))
    shores = [(rng.randint(-2, 2), rng.choice((-1, 1)), 1) for _ in range(rng.randint(1, 3))]
    return (word, one, random_point(rng, 2), tuple(shores))


class Slow:
    """The same by whole copies: a dict of figures, a list of wishes, and all states before."""

    def __init__(self):
        self.figures, self.wishes, self.before = {}, [], []

    def names_of(self, wish):
        return [part for part in wish[1:] if isinstance(part, str)]

    def tell(self, step, arguments):
        """The error, by its class and what it tells, or None."""
        figures, wishes = dict(self.figures), list(self.wishes)
        if step == "undo":
            if not self.before:
                return (NothingToUndo, None)
            self.figures, self.wishes = self.before.pop()
            return None
        if step == "put":
            figures[arguments[0]] = arguments[1]
        if step == "drop":
            if arguments[0] not in figures:
                return (UnknownName, arguments[0])
            del figures[arguments[0]]
            for index, wish in enumerate(wishes):
                if arguments[0] in self.names_of(wish):
                    return (InUse, index)
        if step == "wish":
            for name in self.names_of(arguments[0]):
                if name not in figures:
                    return (UnknownName, name)
            wishes.append(arguments[0])
        if step == "lift":
            if not 0 <= arguments[0] < len(wishes):
                return (InvalidIndex, arguments[0])
            del wishes[arguments[0]]
        for index, wish in enumerate(wishes):
            if not slow_holds(wish, figures):
                return (Broken, index)
        self.before.append((self.figures, self.wishes))
        self.figures, self.wishes = figures, wishes
        return None


class Rows(unittest.TestCase):
    def random_step(self, rng):
        step = rng.choice(("put", "put", "put", "drop", "wish", "wish", "wish", "lift", "undo"))
        if step == "put":
            figure = rng.choice((KITE, DIAMOND, BOX, WEDGE, SMALL, WIDE)) if rng.random() < 0.5 else random_figure(rng, 2)
            if rng.random() < 0.3:
                figure = slow_hull([pt(x * 3, y * 3) for x, y in map(spot, figure)])
            return (step, (rng.choice("abcd"), figure))
        if step == "drop":
            return (step, (rng.choice("abcd"),))
        if step == "wish":
            return (step, (random_wish(rng),))
        return (step, (rng.randint(-1, 4),) if step == "lift" else ())

    def take(self, shop, step, arguments):
        try:
            getattr(shop, step)(*arguments)
        except WindError as error:
            return (type(error), getattr(error, "given", getattr(error, "index", None)))
        return None

    def test_random_rows(self):
        rng = random.Random(1)
        seen = {}
        for _ in range(100):
            shop, slow = Workshop(), Slow()
            for _ in range(40):
                step, arguments = self.random_step(rng)
                if step == "drop" and rng.random() < 0.5:
                    continue
                told = slow.tell(step, arguments)
                self.assertEqual(self.take(shop, step, arguments), told)
                kind = (step, told and told[0].__name__)
                seen[kind] = seen.get(kind, 0) + 1
                self.assertEqual(shop.names, tuple(sorted(slow.figures)))
                self.assertEqual({name: shop.named(name) for name in shop.names}, slow.figures)
                self.assertEqual(shop.wishes, tuple(slow.wishes))
                self.assertEqual(len(shop), len(slow.before))
        self.assertEqual(len(seen), 12, seen)
        self.assertGreater(min(seen.values()), 5, seen)


if __name__ == "__main__":
    unittest.main()
