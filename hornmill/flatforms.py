"""What flat clauses are."""

from hornmill.code import is_predicate
from hornmill.errors import NoFlat
from hornmill.sorts import sort_named
from hornmill.terms import is_integer, is_term, is_variable, numbers_in, parts_of

LEVEL_WORDS = ("entry", "now", "cut", "soft")


def is_call(goal):
    """Tell whether a goal is a call."""
    return goal[0] == "call" or (goal[0] == "do" and sort_named(goal[1]) != "one")


def terms_of(goal):
    """The terms of a goal: its arguments, or the variable of its level."""
    return goal[1:] if goal[0] in LEVEL_WORDS else goal[2]


def no_flat(thing):
    """The first word that tells why anything is no flat clause, None if it is one."""
    if not _has_form(thing):
        return "form"
    if not _has_entries_first(thing[2]):
        return "entry"
    return None if _has_levels(thing) else "level"


def demand_flat(flat):
    """Raise NoFlat for what is no flat clause."""
    why = no_flat(flat)
    if why is not None:
        raise NoFlat(why)


def _has_form(thing):
    if not isinstance(thing, tuple) or len(thing) != 3:
        return False
    key, args, goals = thing
    if not _are_arguments(key, args) or not isinstance(goals, tuple):
        return False
    return all([_is_goal(goal) for goal in goals])


def _are_arguments(key, args):
    """Tell whether these are a key and a tuple of as many terms as it tells."""
    if not is_predicate(key) or not isinstance(args, tuple) or len(args) != key[1]:
        return False
    return all([is_term(term) for term in args])


def _is_goal(thing):
    if not isinstance(thing, tuple) or thing == () or not isinstance(thing[0], str):
        return False
    if thing[0] in LEVEL_WORDS:
        return len(thing) == 2 and is_term(thing[1]) and is_variable(thing[1])
    if thing[0] not in ("call", "do") or len(thing) != 3 or not _are_arguments(thing[1], thing[2]):
        return False
    return (thing[0] == "call") == (sort_named(thing[1]) is None)


def _has_entries_first(goals):
    """Tell whether no entry stands behind a call."""
    has_called = False
    for goal in goals:
        if goal[0] == "entry" and has_called:
            return False
        has_called = has_called or is_call(goal)
    return True


def _has_levels(flat):
    """Tell whether levels are made ahead of where they are used, and stand where they may."""
    key, args, goals = flat
    seen = {}
    for term in args:
        _count(term, seen)
    made = _levels_given(args, seen) if is_integer(key[0]) else {}
    used = {}
    barred = {}
    for goal in goals:
        if goal[0] not in LEVEL_WORDS:
            _bar(goal, barred)
        else:
            k = goal[1][0]
            if goal[0] in ("entry", "now"):
                if k in seen:
                    return False
                made[k] = True
            elif k not in made:
                return False
            used[k] = True
        for term in terms_of(goal):
            _count(term, seen)
    return not any([k in barred for k in used])


def _count(term, seen):
    """Count how often each variable of a term stands in it."""
    for part in parts_of(term):
        if is_variable(part):
            seen[part[0]] = seen.get(part[0], 0) + 1


def _levels_given(args, seen):
    """The variables that are arguments of a head by themselves and once."""
    return {term[0]: True for term in args if is_variable(term) and seen[term[0]] == 1}


def _bar(goal, barred):
    """Note the variables of a goal that stand where levels may not."""
    takes_levels = goal[0] == "call" and is_integer(goal[1][0])
    for term in goal[2]:
        if not takes_levels or not is_variable(term):
            for k in numbers_in(term):
                barred[k] = True
