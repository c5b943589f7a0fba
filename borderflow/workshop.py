"""Workshops: named things, with deeds that can be undone and redone, a journal, and answers that are kept."""

from borderflow.doings import check_known, found_thing, is_of_kind, made_thing, own_thing, told_deed
from borderflow.errors import BorderError, InvalidName, InvalidThing, Missing, NothingLeft, Refused
from borderflow.kin import difference
from borderflow.names import is_among, is_name


def is_shop_name(value):
    """Whether any value is a name of a workshop."""
    return is_name(value)


def is_thing(value):
    """Whether any value is a thing of a workshop."""
    return is_of_kind(value, "thing")


class Workshop:
    """Things under names, the deeds that were done and undone, and the answers that are kept.

    A deed or batch is kept as a tuple (rows, changes): rows is the deed or the list of deeds, and each change is
    a tuple (name, old thing, new thing), with None where the name had or has no thing.
    """

    def __init__(self, **things):
        for name in list(things):
            if not is_shop_name(name):
                raise InvalidName(name)
        for name, thing in things.items():
            if not is_thing(thing):
                raise InvalidThing(name)
        self._things = {name: own_thing(thing) for name, thing in things.items()}
        self._done = []
        self._undone = []
        self._answers = {}
        self._worked = 0

    def run(self, deed):
        """Does a deed."""
        change = change_by(self._things, deed)
        finish_deed(self, (told_deed(deed), (change,)))

    def batch(self, deeds):
        """Does a list of deeds as a whole."""
        things = self._things
        changes = []
        for at, deed in enumerate(deeds):
            try:
                change = change_by(things, deed)
            except (BorderError, Missing) as why:
                raise Refused(at) from why
            changes.append(change)
            things = with_thing(things, change[0], change[2])
        if changes != []:
            finish_deed(self, ([told_deed(deed) for deed in deeds], tuple(changes)))

    def undo(self):
        """Undoes the last deed or batch that is done."""
        if self._done == []:
            raise NothingLeft()
        entry = self._done[-1]
        self._done = self._done[:-1]
        self._undone = [*self._undone, entry]
        for name, old, _ in entry[1][::-1]:
            change_name(self, name, old)

    def redo(self):
        """Redoes the deed or batch that was undone last."""
        if self._undone == []:
            raise NothingLeft()
        entry = self._undone[-1]
        self._undone = self._undone[:-1]
        self._done = [*self._done, entry]
        for name, _, new in entry[1]:
            change_name(self, name, new)

    def journal(self):
        """The list of the deeds that are done; a batch is a list of its deeds."""
        return [told_rows(rows) for rows, _ in self._done]

    @staticmethod
    def replay(journal_rows, **things):
        """The workshop with these things, in which the deeds and batches of a journal have been done."""
        shop = Workshop(**things)
        for row in journal_rows:
            if isinstance(row, list):
                shop.batch(row)
            else:
                shop.run(row)
        return shop

    def names(self):
        """The ascending list of the names."""
        return sorted(self._things)

    def thing(self, name):
        """The thing under a name."""
        check_known(self._things, name)
        return own_thing(self._things[name])

    def __contains__(self, x):
        return is_among(self._things, x)

    def share_of(self, name):
        """The share of a seen set."""
        seen = found_thing(self._things, name, "seen")
        key = ("share", name, name)
        if key not in self._answers:
            keep_answer(self, key, seen.share)
        return self._answers[key]

    def difference_of(self, one, other):
        """The difference of two floors."""
        first = found_thing(self._things, one, "floor")
        second = found_thing(self._things, other, "floor")
        key = ("difference", one, other)
        if key not in self._answers:
            keep_answer(self, key, difference(first, second))
        return self._answers[key]

    @property
    def worked(self):
        """How often an answer was worked out."""
        return self._worked

    def twin(self):
        """An independent workshop in the same state."""
        other = Workshop()
        other._things = dict(self._things)
        other._done = list(self._done)
        other._undone = list(self._undone)
        other._answers = {key: answer for key, answer in self._answers.items()}
        other._worked = self._worked
        return other

    def __len__(self):
        return len(self._things)

    def __bool__(self):
        return True

    def __repr__(self):
        return f"Workshop({len(self._things)} things, {len(self._done)} deeds)"


def change_by(things, deed):
    """The change (name, old thing, new thing) that a deed makes."""
    new = made_thing(things, deed)
    return deed[1], things.get(deed[1]), new


def with_thing(things, name, thing):
    """The dict of things with a thing under a name, or without the name for None."""
    others = {other: things[other] for other in things if other != name}
    return others if thing is None else {**others, name: thing}


def change_name(shop, name, thing):
    """Puts a thing under a name of a workshop, or takes the name off for None, and forgets answers about the name."""
    shop._things = with_thing(shop._things, name, thing)
    shop._answers = {key: answer for key, answer in shop._answers.items() if name not in key[1:]}


def finish_deed(shop, entry):
    """Does the changes of a deed or batch that raised no error, and keeps it."""
    shop._done = [*shop._done, entry]
    shop._undone = []
    for name, _, new in entry[1]:
        change_name(shop, name, new)


def told_rows(rows):
    """A deed, or the list of the deeds of a batch, as the journal tells them."""
    if isinstance(rows, list):
        return [told_deed(deed) for deed in rows]
    return told_deed(rows)


def keep_answer(shop, key, answer):
    """Keeps an answer that was worked out."""
    answers = {other: told for other, told in shop._answers.items()}
    answers[key] = answer
    shop._answers = answers
    shop._worked = shop._worked + 1
