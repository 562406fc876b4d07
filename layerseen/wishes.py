"""Wishes that handlers stand inside others, and the stacks that keep them."""

from layerseen.errors import BadName, BadWish, TooMany
from layerseen.names import is_handler_name
from layerseen.orders import check_stack, have_same_handlers, turned_pairs
from layerseen.search import Search, floors_of, least_ring
from layerseen.stacks import Stack
from layerseen.values import Paper, copied, is_whole
from layerseen.words import Words

MOST_WISHES = 60


class Wish:
    """That a handler stands inside another one."""

    def __init__(self, inner, outer):
        for value in (inner, outer):
            if not is_handler_name(value):
                raise BadName(value)
        if inner == outer:
            raise BadWish("same")
        self.inner = inner
        self.outer = outer

    @classmethod
    def read(cls, text):
        """The Wish with just this text."""
        words = Words(text)
        wish = next_wish(words)
        words.finish()
        return wish

    @staticmethod
    def undone_by(name, failure):
        """That a failure takes a thing back."""
        return Wish(name, failure)

    @staticmethod
    def kept_by(name, failure):
        """That a failure keeps a thing."""
        return Wish(failure, name)

    @staticmethod
    def each_own(name):
        """That each branch has a thing of its own."""
        return Wish(name, "choice")

    @staticmethod
    def all_share(name):
        """That all branches share a thing."""
        return Wish("choice", name)

    @staticmethod
    def branch_fails(failure):
        """That a failure ends its branch alone."""
        return Wish(failure, "choice")

    @staticmethod
    def all_fail(failure):
        """That a failure ends all branches."""
        return Wish("choice", failure)

    def __invert__(self):
        return Wish(self.outer, self.inner)

    def __eq__(self, other):
        return isinstance(other, Wish) and self.inner == other.inner and self.outer == other.outer

    def __str__(self):
        return f"{self.inner} in {self.outer}"

    def holds(self, stack):
        """Whether the inner one stands inside the outer one."""
        check_stack(stack, "stack")
        inner = stack.handler(self.inner)
        if not inner.meets(stack.handler(self.outer)):
            raise BadWish("pair")
        return stack.is_inside(self.inner, self.outer)


class Wishes:
    """A set of wishes."""

    def __init__(self, *wishes):
        by_text = {}
        for at, wish in enumerate(wishes):
            if not isinstance(wish, Wish):
                raise BadWish(at)
            by_text[f"{wish.inner} {wish.outer}"] = wish
        if len(by_text) > MOST_WISHES:
            raise TooMany("wishes", MOST_WISHES)
        self.rows = tuple([by_text[text] for text in sorted(by_text, key=str)])

    @classmethod
    def of_stack(cls, stack):
        """All wishes about handlers that interact that hold in a stack."""
        check_stack(stack, "stack")
        row = [Wish(inner, outer) for outer, inner in stack.pairs]
        return Wishes(*row)

    @property
    def listed(self):
        """The tuple of the wishes, ascending by inner, then outer."""
        return self.rows

    def __len__(self):
        return len(self.rows)

    def __iter__(self):
        return iter(self.rows)

    def __contains__(self, wish):
        return wish in self.rows

    def __bool__(self):
        return bool(self.rows)

    def __eq__(self, other):
        return isinstance(other, Wishes) and self.rows == other.rows

    def __or__(self, other):
        row = self.rows + _rows_of(other)
        return Wishes(*row)

    def __and__(self, other):
        rows = _rows_of(other)
        row = [wish for wish in self.rows if wish in rows]
        return Wishes(*row)

    def __sub__(self, other):
        rows = _rows_of(other)
        row = [wish for wish in self.rows if wish not in rows]
        return Wishes(*row)

    def __le__(self, other):
        rows = _rows_of(other)
        return all([wish in rows for wish in self.rows])

    def __lt__(self, other):
        rows = _rows_of(other)
        return len(self.rows) < len(rows) and all([wish in rows for wish in self.rows])

    def hold(self, stack):
        """Whether all wishes hold."""
        return len(self.broken(stack)) == 0

    def broken(self, stack):
        """The tuple of the wishes that do not hold, ascending."""
        check_stack(stack, "stack")
        return tuple([wish for wish in self.rows if not wish.holds(stack)])


class Ring(Paper):
    """Names each of which shall stand inside the next one, the last one inside the first one."""

    def __init__(self, names):
        self.names = copied(names)

    def __eq__(self, other):
        return isinstance(other, Ring) and self.names == other.names

    def __bool__(self):
        return False

    def contents(self):
        return (self.names,)

    def anew(self):
        return Ring(self.names)


class Near(Paper):
    """A stack that keeps wishes and turns as few pairs as any; the floors show that fewer are not enough."""

    def __init__(self, stack, many, floors):
        self.stack = copied(stack)
        self.many = copied(many)
        self.floors = copied(floors)

    def __eq__(self, other):
        return (
            isinstance(other, Near) and self.stack == other.stack
            and self.many == other.many and self.floors == other.floors
        )

    def __bool__(self):
        return True

    def contents(self):
        return (self.stack, self.many, self.floors)

    def anew(self):
        return Near(self.stack, self.many, self.floors)


def next_wish(words):
    """The wish that the next words tell."""
    inner = words.take_handler_name()
    words.take("in")
    if words.sees(inner):
        words.refuse()
    return Wish(inner, words.take_handler_name())


def stack_for(stack, wishes):
    """The first normal stack of the handlers that keeps all wishes, or a Ring."""
    pairs = _pairs_for(stack, wishes)
    names = least_ring(pairs)
    if names is not None:
        return Ring(names)
    row = Search(stack, pairs, ()).first()
    return Stack(*row)


def nearest(stack, wishes):
    """The Near of the first normal stack that keeps all wishes and turns as few pairs as any, or a Ring."""
    pairs = _pairs_for(stack, wishes)
    names = least_ring(pairs)
    if names is not None:
        return Ring(names)
    search = Search(stack, pairs, stack.pairs)
    row = search.first()
    return Near(Stack(*row), search.least(0), floors_of(search))


def shows_ring(wishes, value):
    """Whether any value is a Ring of a ring of the wishes."""
    if not isinstance(wishes, Wishes):
        raise BadWish("wishes")
    if not isinstance(value, Ring) or not isinstance(value.names, tuple) or len(value.names) < 2:
        return False
    wished = [(wish.inner, wish.outer) for wish in wishes]
    following = value.names[1:] + value.names[:1]
    if not all([pair in wished for pair in zip(value.names, following)]):
        return False
    return len(set([str(name) for name in value.names])) == len(value.names)


def shows_near(stack, wishes, value):
    """Whether any value is a Near of a stack, normal or not, that keeps all wishes, and of its floors."""
    pairs = _pairs_for(stack, wishes)
    if not isinstance(value, Near) or not isinstance(value.stack, Stack) or not isinstance(value.floors, dict):
        return False
    if not have_same_handlers(stack, value.stack) or not wishes.hold(value.stack):
        return False
    if not is_whole(value.many) or value.many != len(turned_pairs(stack, value.stack)):
        return False
    return _are_floors(Search(stack, pairs, stack.pairs), value.floors, value.many)


def _rows_of(value):
    if not isinstance(value, Wishes):
        raise BadWish("wishes")
    return value.rows


def _pairs_for(stack, wishes):
    """The pairs (inner, outer) that are wished of the handlers of a stack."""
    check_stack(stack, "stack")
    if not isinstance(wishes, Wishes):
        raise BadWish("wishes")
    wishes.hold(stack)
    return [(wish.inner, wish.outer) for wish in wishes]


def _are_floors(search, floors, many):
    """Whether a dict has floors for the closed sets and nothing else, that of all names being many."""
    closed = search.closed()
    names = {some: search.names_of(some) for some in closed}
    if len(floors) != len(closed) or not all([names[some] in floors for some in closed]):
        return False
    if not all([is_whole(floors[names[some]]) for some in closed]):
        return False
    if floors[()] != 0 or floors[search.names] != many:
        return False
    return all([
        floors[names[some | 1 << at]] <= floors[names[some]] + search.price(some, at)
        for some in closed for at in search.joining(some)
    ])
