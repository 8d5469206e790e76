"""Indexes written out as instructions, and read back.

Here the clauses of an index are told by the list of their index keys.
"""

from hornmill.terms import MOST_ARGUMENTS, is_atom, is_integer, is_number, is_term

SORT_WORDS = ("con", "int", "fun")
TABLE_WORDS = {"on_con": "con", "on_int": "int", "on_fun": "fun"}
ROW_WORDS = ("only", "try", "retry", "trust")


class NoSwitches(Exception):
    """A list of instructions is no index."""

    def __init__(self):
        Exception.__init__(self, "no index")


def row_for(keys, key):
    """The numbers of the clauses that are tried for an index key; None stands for a variable."""
    return [at for at, one in enumerate(keys) if key is None or one is None or one == key]


def rest_row(keys):
    """The numbers of the clauses that are tried for all keys that are none of theirs."""
    return [at for at, one in enumerate(keys) if one is None]


def known_keys(keys):
    """The index keys of clauses, each once, as they first come, without None."""
    found = {}
    for key in keys:
        if key is not None:
            found[key] = True
    return list(found)


def is_index_key(thing):
    """Tell whether anything is an index key."""
    if thing is None:
        return True
    if not isinstance(thing, tuple) or len(thing) < 2 or not isinstance(thing[0], str):
        return False
    if len(thing) == 2:
        return (thing[0] == "con" and is_atom(thing[1])) or (thing[0] == "int" and _is_integer_term(thing[1]))
    return len(thing) == 3 and thing[0] == "fun" and _is_functor(thing[1:])


def _is_integer_term(thing):
    return is_integer(thing) and is_term(thing)


def _is_functor(thing):
    """Tell whether anything is a tuple of a name and a number of arguments."""
    if not isinstance(thing, tuple) or len(thing) != 2 or not is_atom(thing[0]):
        return False
    return is_integer(thing[1]) and 1 <= thing[1] <= MOST_ARGUMENTS


class SwitchWriter:
    """Writes an index; rows are at first named with their places, then written."""

    def __init__(self, keys):
        self.clause_keys = keys
        self.known_now = known_keys(keys)
        self.tables = [word for word in SORT_WORDS if self._of_sort(word) != []]
        self.named = {}
        self.free_place = 1 + len(self.tables)

    def _of_sort(self, word):
        """The known keys of a sort."""
        return [key for key in self.known_now if key[0] == word]

    def _place(self, row):
        """The place of a row, None for an empty one."""
        if row == []:
            return None
        name = tuple(row)
        if name not in self.named:
            self.named[name] = self.free_place
            self.free_place += len(row)
        return self.named[name]

    def _table(self, word):
        """The table of a sort."""
        rows = []
        for key in self._of_sort(word):
            what = key[1:] if word == "fun" else key[1]
            rows.append((what, self._place(row_for(self.clause_keys, key))))
        return tuple(rows)

    def instructions(self):
        """The list of the instructions."""
        if self.known_now == []:
            return row_instructions(list(range(len(self.clause_keys))))
        kinds = [self._place(row_for(self.clause_keys, None))]
        for word in SORT_WORDS:
            is_table = word in self.tables
            kinds.append(self.tables.index(word) + 1 if is_table else self._place(rest_row(self.clause_keys)))
        found = [("on_kind", *kinds)]
        for word in self.tables:
            found.append(("on_" + word, self._table(word), self._place(rest_row(self.clause_keys))))
        for row in self.named:
            found.extend(row_instructions(list(row)))
        return found


def row_instructions(row):
    """The instructions that try the clauses of a row one after the other."""
    if len(row) < 2:
        return [("only", k) for k in row]
    return [("try", row[0])] + [("retry", k) for k in row[1:-1]] + [("trust", row[-1])]


def _is_place(thing):
    """Tell whether anything is the place of an instruction, or None."""
    return thing is None or is_number(thing)


def _is_what(word, thing):
    """Tell whether anything is what a table with this word has."""
    if word == "on_con":
        return is_atom(thing)
    return _is_integer_term(thing) if word == "on_int" else _is_functor(thing)


def _is_table_row(word, thing):
    """Tell whether anything is a row of a table."""
    return isinstance(thing, tuple) and len(thing) == 2 and _is_what(word, thing[0]) and is_number(thing[1])


def _is_switch(thing):
    """Tell whether anything is an instruction of an index."""
    if not isinstance(thing, tuple) or thing == () or not isinstance(thing[0], str):
        return False
    if thing[0] == "on_kind":
        return len(thing) == 5 and all([_is_place(place) for place in thing[1:]])
    if thing[0] in TABLE_WORDS:
        if len(thing) != 3 or not isinstance(thing[1], tuple) or not _is_place(thing[2]):
            return False
        return all([_is_table_row(thing[0], row) for row in thing[1]])
    return len(thing) == 2 and thing[0] in ROW_WORDS and is_number(thing[1])


class SwitchReader:
    """Reads an index back: all rows, and the index keys of the clauses."""

    def __init__(self, switches):
        if not isinstance(switches, list) or not all([_is_switch(one) for one in switches]):
            raise NoSwitches()
        self.switches = switches
        self.all_row = []
        self.rows = []
        self.rest_now = []
        if switches != []:
            self._read(switches[0])

    def _read(self, first):
        """Read what there is, from the first instruction on."""
        if first[0] == "on_kind":
            self.all_row = self._row(first[1])
            self._read_tables()
        else:
            self.all_row = self._row(0)
            self.rest_now = self.all_row

    def _read_tables(self):
        """Read the tables behind on_kind."""
        for word, *told in self.switches[1:]:
            if word not in TABLE_WORDS:
                return
            for what, place in told[0]:
                sort = TABLE_WORDS[word]
                key = (sort, *what) if sort == "fun" else (sort, what)
                self.rows.append((key, self._row(place)))
            self.rest_now = self._row(told[1])

    def _row(self, place):
        """The row at a place."""
        if place is None:
            return []
        found = []
        words = ("only", "try")
        while place < len(self.switches) and self.switches[place][0] in words:
            word, k = self.switches[place]
            found.append(k)
            if word in ("only", "trust"):
                return found
            words = ("retry", "trust")
            place += 1
        raise NoSwitches()

    def told_keys(self):
        """The index keys of the clauses, if this is an index."""
        found = [None for _ in self.all_row]
        others = {k: True for k in self.rest_now}
        for key, row in self.rows:
            for k in row:
                if k >= len(found):
                    raise NoSwitches()
                if k not in others:
                    found[k] = key
        return found
