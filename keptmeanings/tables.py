"""Tables: rows that keep what functions told, with a journal, undoing, branches and attempts."""

from keptmeanings.checks import check_body, check_function, check_row, check_setting, check_thing, is_below, is_whole
from keptmeanings.errors import BadAsk, BadFree, BadSetting, NoRow, NothingDone, Refused
from keptmeanings.meanings import Meanings
from keptmeanings.plans import check_plan
from keptmeanings.rows import told_both_ways


class Table:
    """A table of a plan, with a wording, a session and rows."""

    def __init__(self, plan):
        check_plan(plan)
        self._plan = plan
        self._meanings = Meanings(plan)
        self._wording = (0,) * len(plan.book)
        self._session = plan.writers[0]
        self._rows = {}
        self._coming = 0
        # What was done: the deed, what it changed as it was before it, and for rows None where there was none.
        self._past = []
        # How much of this was done before the attempt that the table is in, and cannot be undone.
        self._floor = 0

    @property
    def plan(self):
        """The Plan."""
        return self._plan

    @property
    def wording(self):
        """The wording that the functions have now."""
        return self._wording

    @property
    def numbers(self):
        """The ascending list of the numbers of the rows that are there."""
        return sorted(list(self._rows))

    @property
    def journal(self):
        """The list of all that was done and has not been undone, in order."""
        return [done[0] for done in self._past]

    @property
    def session(self):
        """The setting of the session."""
        return self._session

    def use(self, setting):
        """Give the session another setting, and return the one that it had."""
        check_setting(self._plan.book, setting)
        had = self._session
        self._do(("session", setting), {})
        self._session = setting
        return had

    def add(self, row):
        """Write a row, and return its number."""
        held = self._write(row)
        number = self._coming
        self._do(("add", row), {number: held})
        self._coming += 1
        return number

    def take(self, number):
        """Take a row out, and return the pair of it and its kept numbers."""
        held = self[number]
        self._do(("take", number), {number: None})
        return held

    def put(self, function, body):
        """Redefine a function, and return the body that it had."""
        book = self._plan.book
        check_function(book, function)
        check_body(book, function, body)
        if function not in self._plan.free:
            raise BadFree("the function cannot be redefined")
        had = self._wording[function]
        self._do(("put", function, body), {})
        self._wording = book.put(self._wording, function, body)
        return had

    def build(self, thing):
        """Build a thing for all rows, and return the ascending list of the numbers of those that it changed or took."""
        check_thing(self._plan, thing)
        self._check_writer()
        changes = {}
        for number in self.numbers:
            held = self._rows[number]
            built = self._meanings.built(self._wording, self._session, held, thing)
            if built != held:
                changes[number] = built
        self._do(("build", thing), changes)
        return list(changes)

    def seek(self, thing, number, *, plainly=False):
        """The ascending list of the numbers of the rows that are told, by the thing or plainly."""
        check_thing(self._plan, thing)
        if not is_below(number, self._plan.book.base):
            raise BadAsk("not a number of the book")
        ask = (thing, number, self._session)
        way = 0 if plainly else 1
        return [at for at in self.numbers
                if told_both_ways(self._meanings, (self._wording, self._rows[at]), ask)[way]]

    def undo(self):
        """Take back what was done last, and return it as it stood in the journal."""
        if len(self._past) == self._floor:
            raise NothingDone("there is nothing that can be undone")
        deed, self._wording, self._session, self._coming, rows = self._past.pop()
        self._change(rows)
        return deed

    def branch(self):
        """An independent table with all that this one has, in no attempt."""
        other = Table(self._plan)
        other._wording, other._session, other._coming = self._wording, self._session, self._coming
        other._rows = {number: self._rows[number] for number in self._rows}
        other._past = list(self._past)
        return other

    def attempt(self, work):
        """Call work with the table and return what it returns; where an error leaves it, take back all that it did."""
        floor, wording, session, coming = self._floor, self._wording, self._session, self._coming
        rows = {number: self._rows[number] for number in self._rows}
        past = list(self._past)
        self._floor = len(past)
        done = None
        try:
            told = work(self)
            done = True
            return told
        finally:
            self._floor = floor
            if done is None:
                self._wording, self._session, self._coming = wording, session, coming
                self._rows, self._past = rows, past

    def __len__(self):
        return len(self._rows)

    def __contains__(self, number):
        return is_whole(number) and number in self._rows

    def __getitem__(self, number):
        if number not in self:
            raise NoRow("no row with this number is there")
        return self._rows[number]

    def __setitem__(self, number, row):
        if number not in self:
            raise NoRow("no row with this number is there")
        held = self._write(row)
        self._do(("replace", number, row), {number: held})

    def __iter__(self):
        raise TypeError("a Table is not iterated over")

    def _check_writer(self):
        """Raise BadSetting if the session's setting is no writer."""
        if self._session not in self._plan.writers:
            raise BadSetting("the session's setting is no writer")

    def _write(self, row):
        """The pair of a row and its kept numbers when it is written now; raise the error if it is refused."""
        check_row(self._plan, row)
        self._check_writer()
        held = self._meanings.written(self._wording, self._session, row)
        if held is None:
            raise Refused("the row does not pass")
        return held

    def _do(self, deed, changes):
        """Note a deed with what was before it, and change rows by a dict from numbers to rows, or None."""
        before = {number: self._rows.get(number) for number in changes}
        self._past.append((deed, self._wording, self._session, self._coming, before))
        self._change(changes)

    def _change(self, rows):
        """Put each row of a dict under its number, and take out those that are None there."""
        for number in rows:
            if rows[number] is not None:
                self._rows[number] = rows[number]
            else:
                self._rows.pop(number, None)
