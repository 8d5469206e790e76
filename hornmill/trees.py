"""Terms as runs of goals have them: variables that can be bound, and compounds that share parts.

An atom or an integer is itself. The others have a link: what a variable is bound to, or
an equal compound that a compound was unified with; None if there is no such thing. What
was linked is noted on a trail, a list.
"""

from hornmill.terms import is_variable, parts_of


class Free:
    """A variable."""

    def __init__(self):
        self.link = None


class Built:
    """A compound."""

    def __init__(self, name, inner):
        self.name = name
        self.inner = inner
        self.link = None


def end_of(thing):
    """What a thing is linked to in the end."""
    while isinstance(thing, (Free, Built)) and thing.link is not None:
        thing = thing.link
    return thing


def unlink(trail, length):
    """Take the links back that were made since the trail had this length."""
    while len(trail) > length:
        thing = trail.pop()
        thing.link = None


def make(term, known):
    """The thing that a term stands for; known tells the things of variables, new ones are put there."""
    if not isinstance(term, tuple):
        return term
    done = []
    for part in reversed(parts_of(term)):
        if not isinstance(part, tuple):
            done.append(part)
        elif is_variable(part):
            done.append(known[part[0]] if part[0] in known else known.setdefault(part[0], Free()))
        else:
            many = len(part) - 1
            inner = tuple(done[:-many - 1:-1])
            del done[-many:]
            done.append(Built(part[0], inner))
    return done[0]


def read(things):
    """The terms of some things, renumbered together, and the variables by their numbers."""
    numbers = {}
    variables = []
    row = []
    waiting = list(reversed(things))
    while waiting:
        thing = end_of(waiting.pop())
        if isinstance(thing, Built):
            row.append((thing.name, len(thing.inner)))
            waiting.extend(thing.inner[::-1])
        elif isinstance(thing, Free):
            if thing not in numbers:
                numbers[thing] = len(variables)
                variables.append(thing)
            row.append(((numbers[thing],), 0))
        else:
            row.append((thing, 0))
    return _terms_of(row), variables


def _terms_of(row):
    """The terms that a row tells from the left, as of folded."""
    done = []
    for what, many in reversed(row):
        if many == 0:
            done.append(what)
        else:
            inner = done[:-many - 1:-1]
            del done[-many:]
            done.append((what, *inner))
    return done[::-1]


def _has_round(things):
    """Tell whether one of some things has come to be within itself; each compound is gone through once."""
    is_open = {}
    waiting = [(end_of(thing), False) for thing in things]
    while waiting:
        one, is_left = waiting.pop()
        if is_left:
            is_open[one] = False
        elif one in is_open:
            if is_open[one]:
                return True
        elif isinstance(one, Built):
            is_open[one] = True
            waiting.append((one, True))
            waiting.extend([(end_of(inner), False) for inner in one.inner])
    return False


def _link(thing, other, trail):
    thing.link = other
    trail.append(thing)


def _merge(one, other, trail):
    """Make two things equal, even if one has to be within itself then; return False if that is not possible."""
    waiting = [(one, other)]
    while waiting:
        one, other = waiting.pop()
        one, other = end_of(one), end_of(other)
        if one == other:
            continue
        if isinstance(one, Free):
            _link(one, other, trail)
        elif isinstance(other, Free):
            _link(other, one, trail)
        elif _are_alike(one, other):
            _link(one, other, trail)
            waiting.extend(list(zip(one.inner, other.inner)))
        else:
            return False
    return True


def _are_alike(one, other):
    """Tell whether two things are compounds of the same name and number of arguments."""
    if not isinstance(one, Built) or not isinstance(other, Built):
        return False
    return one.name == other.name and len(one.inner) == len(other.inner)


def join(one, other, trail):
    """Unify two things; if that fails, return False, and links that were made stay."""
    length = len(trail)
    return _merge(one, other, trail) and not _has_round(trail[length:])


def match(terms, things, known, trail):
    """Unify terms with as many things, as join does; known and new variables are as of make."""
    length = len(trail)
    # From the left: a variable that is met as an argument first needs no new one.
    waiting = list(zip(terms, things))[::-1]
    while waiting:
        term, thing = waiting.pop()
        thing = end_of(thing)
        if is_variable(term):
            if not _merge(known.setdefault(term[0], thing), thing, trail):
                return False
        elif isinstance(thing, Free):
            _link(thing, make(term, known), trail)
        elif not isinstance(term, tuple):
            if term != thing:
                return False
        elif isinstance(thing, Built) and thing.name == term[0] and len(thing.inner) == len(term) - 1:
            waiting.extend(list(zip(term[:0:-1], thing.inner[::-1])))
        else:
            return False
    return not _has_round(trail[length:])
