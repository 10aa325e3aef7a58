"""Workshops: figures under names, wishes that always hold, and changes that can be taken back."""
from windfigure.errors import Broken, InUse, InvalidIndex, InvalidWish, NothingToUndo, UnknownName
from windfigure.exact import is_whole
from windfigure.figures import need_figure
from windfigure.wishes import is_fulfilled, is_wish, names_in, need_name


class Moment:
    """What a workshop holds when a trial begins; and the same for the trial around it that is the same object."""

    def __init__(self, shop, earlier):
        self.figures = shop.figures
        self.vows = shop.vows
        self.past = shop.past
        self.earlier = earlier


class Trial:
    """For a with statement: if its block ends with an exception, the workshop is as it was when it began."""

    def __init__(self, shop):
        self.shop = shop
        self.moment = None

    def __enter__(self):
        self.moment = Moment(self.shop, self.moment)
        return self.shop

    def __exit__(self, kind, value, trace):
        shop = self.shop
        if kind is not None:
            shop.figures = self.moment.figures
            shop.vows = self.moment.vows
            shop.past = self.moment.past
        self.moment = self.moment.earlier


class Workshop:
    """Each change puts new figures and vows in the place of the old ones, which stay as they are in the past."""

    def __init__(self):
        self.figures = {}
        self.vows = ()
        self.past = ()

    def put(self, name, figure):
        need_name(name)
        need_figure(figure)
        figures = {**self.figures, name: figure}
        for index, wish in enumerate(self.vows):
            if name in names_in(wish) and not is_fulfilled(wish, figures):
                raise Broken(index)
        self.change(figures, self.vows)

    def drop(self, name):
        self.need_known(name)
        for index, wish in enumerate(self.vows):
            if name in names_in(wish):
                raise InUse(index)
        self.change({other: self.figures[other] for other in self.figures if other != name}, self.vows)

    def wish(self, wish):
        if not is_wish(wish):
            raise InvalidWish(wish)
        for name in names_in(wish):
            self.need_known(name)
        if not is_fulfilled(wish, self.figures):
            raise Broken(len(self.vows))
        self.change(self.figures, self.vows + (wish,))

    def lift(self, index):
        if not is_whole(index) or not 0 <= index < len(self.vows):
            raise InvalidIndex(index)
        self.change(self.figures, self.vows[:index] + self.vows[index + 1:])

    def named(self, name):
        self.need_known(name)
        return self.figures[name]

    def undo(self):
        if not self.past:
            raise NothingToUndo()
        self.figures, self.vows = self.past[-1]
        self.past = self.past[:-1]

    def trial(self):
        return Trial(self)

    def tried(self, action):
        with self.trial() as shop:
            return action(shop)

    def __len__(self):
        return len(self.past)

    def __bool__(self):
        return True

    def __contains__(self, name):
        return isinstance(name, str) and name in self.figures

    @property
    def names(self):
        return tuple(sorted(self.figures))

    @property
    def wishes(self):
        return self.vows

    def need_known(self, name):
        if name not in self:
            raise UnknownName(name)

    def change(self, figures, vows):
        self.past = self.past + ((self.figures, self.vows),)
        self.figures = figures
        self.vows = vows
