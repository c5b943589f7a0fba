"""Workshops: points [44] and [45] and the interface of borderflow/workshop.py."""

import random
import unittest

from borderflow.between import SeenBetween
from borderflow.carrying import carry as carried_over
from borderflow.errors import (
    DuplicateName, InvalidDeed, InvalidName, InvalidNumber, InvalidPart, InvalidSaying, InvalidThing, NotAllowed,
    NothingLeft, Refused, TooMany, TooNarrow, UnknownName, UnlikeFloors, UnlikeFlows, UnlikeGrounds, WrongThing,
)
from borderflow.exchanges import Exchange, swap_signs
from borderflow.floors import Closed, Floor
from borderflow.grounds import Ground
from borderflow.kin import difference
from borderflow.machines import move, same, wall
from borderflow.middles import Middle
from borderflow.programs import Program
from borderflow.ratios import Ratio
from borderflow.rows import Row
from borderflow.seams import Seam
from borderflow.seen import Seen
from borderflow.swaps import Swaps
from borderflow.walks import Walk
from borderflow.workshop import Workshop, is_shop_name, is_thing
from tests.cases import Case
from tests.known import carry, flip, third

NO_NUMBERS = (None, True, False, "1", "", (), [], (1,), [1], Ratio(1))
NO_NAMES = (
    None, True, 0, "", "A", "aB", "a1", "a b", " a", "a_b", "ninechars", "abcdefghi", "a\n", (), [], ("a",), ["a"], Ratio(1),
)
NO_THINGS = (
    None, True, 0, "", "row", (), [], ("a",), Ratio(1), Ground(2), flip().rule, Seam(flip(), flip()),
    Middle(flip(), (0,) * 8), Walk(Floor([flip()]), Row((0,))), Swaps(flip(), (0,), (0,)),
    SeenBetween(Closed([wall()], [1])), Row, [Row((0,))],
)
ROW = Row((0,), (0, 0, 1, 1, 1, 1, 0, 1), (0, 1))
TWO = Ground(2)


def program():
    return Program((2, 2), ("move", 0, 1), ("add", 1, ((0, 0),), (0, 1)))


def some_seen():
    seen = Seen(carry())
    seen.say("first", 0, 0, 1, 2)
    seen.say("next", 1, 1, 3)
    return seen


def things():
    """A thing of each kind."""
    return {
        "flip": flip(), "carry": carry(), "right": move(2, 1), "prog": program(), "row": ROW, "wide": Row((3,), (1, 2), (0,)),
        "floor": Floor([flip(), flip()]), "plain": Floor([flip()]), "closed": Closed([flip()], [8]),
        "swap": swap_signs(TWO, 1, 0, 1), "four": swap_signs(Ground(4), 0, 1, 2), "seen": some_seen(),
    }


def shop():
    return Workshop(**things())


def state(workshop):
    """All that a workshop shows of its state."""
    told = {name: workshop.thing(name) for name in workshop.names()}
    return told, workshop.journal(), len(workshop), repr(workshop), workshop.worked


class Names(Case):
    def test_names(self):
        for name in ("a", "z", "row", "abcdefgh", "self"):
            self.assertIs(is_shop_name(name), True)
        for value in (*NO_NAMES, "a\u00e9", "\u00aa", "aaaaaaaaa", "-"):
            self.assertIs(is_shop_name(value), False)
        self.assertIs(is_shop_name(value="a"), True)

    def test_things(self):
        for thing in things().values():
            self.assertIs(is_thing(thing), True)
        for value in NO_THINGS:
            self.assertIs(is_thing(value), False, value)
        self.assertIs(is_thing(value=ROW), True)


class Making(Case):
    def test_without_things(self):
        empty = Workshop()
        self.assertEqual((empty.names(), empty.journal(), len(empty), empty.worked), ([], [], 0, 0))
        self.assertEqual(repr(empty), "Workshop(0 things, 0 deeds)")
        self.assertTrue(bool(empty))
        self.fails(NothingLeft, (), empty.undo)
        self.fails(NothingLeft, (), empty.redo)
        self.assertFalse("a" in empty)
        self.assertFalse(Workshop() == Workshop())

    def test_things(self):
        workshop = shop()
        self.assertEqual(workshop.names(), sorted(things()))
        self.assertEqual((len(workshop), repr(workshop)), (12, "Workshop(12 things, 0 deeds)"))
        for name, thing in things().items():
            self.assertTrue(name in workshop)
            self.assertEqual(workshop.thing(name), thing)
        for value in (*NO_NAMES, "b", "rows"):
            self.assertFalse(value in workshop)
            self.fails(UnknownName, (value,), workshop.thing, value)

    def test_wrong_names_and_things(self):
        for name in ("ninechars", "A", "a1", "a_b", "", "a b"):
            self.fails(InvalidName, (name,), Workshop, **{name: ROW})
            self.fails(InvalidName, (name,), Workshop, **{"a": None, name: ROW, "B": ROW})
        for value in NO_THINGS:
            self.fails(InvalidThing, ("b",), Workshop, a=ROW, b=value, c=None)
        self.assertEqual(Workshop(abcdefgh=ROW, z=ROW).names(), ["abcdefgh", "z"])

    def test_seen_sets_are_copied(self):
        seen = some_seen()
        workshop = Workshop(seen=seen)
        seen.unsay("first")
        self.assertEqual(workshop.thing("seen"), some_seen())
        workshop.thing("seen").unsay("next")
        workshop.thing(name="seen").say("a", 0, 0, 1)
        self.assertEqual(workshop.thing("seen"), some_seen())

    def test_a_deed_puts_a_copy(self):
        seen = some_seen()
        workshop = Workshop()
        workshop.run(("put", "s", seen))
        seen.unsay("first")
        self.assertEqual(workshop.thing("s"), some_seen())
        told = workshop.journal()[0]
        self.assertEqual(told, ("put", "s", some_seen()))
        told[2].unsay("first")
        self.assertEqual(workshop.journal(), [("put", "s", some_seen())])
        workshop.run(("say", "s", "more", 0, 0, (1,)))
        self.assertEqual(workshop.journal()[0], ("put", "s", some_seen()))
        workshop.undo()
        workshop.undo()
        workshop.redo()
        self.assertEqual(workshop.thing("s"), some_seen())


class Deeds(Case):
    def does(self, deed, name, told, workshop=None):
        """Checks that a deed gives a name this thing, that it can be undone and redone, and that it stands in the journal."""
        workshop = shop() if workshop is None else workshop
        before = state(workshop)
        self.assertIsNone(workshop.run(deed))
        if told is None:
            self.assertFalse(name in workshop)
        else:
            self.assertEqual(workshop.thing(name), told)
            self.assertIs(type(workshop.thing(name)), type(told))
        self.assertEqual(workshop.journal(), [*before[1], deed])
        behind = state(workshop)
        self.assertEqual({other: thing for other, thing in behind[0].items() if other != name},
                         {other: thing for other, thing in before[0].items() if other != name})
        self.assertIsNone(workshop.undo())
        self.assertEqual(state(workshop), before)
        self.assertIsNone(workshop.redo())
        self.assertEqual(state(workshop), behind)

    def test_put_and_drop(self):
        for thing in things().values():
            self.does(("put", "new", thing), "new", thing)
            self.does(("put", "row", thing), "row", thing)
        for name in things():
            self.does(("drop", name), name, None)

    def test_tick(self):
        row, wide = ROW, Row((3,), (1, 2), (0,))
        self.does(("tick", "row", "flip", 1), "row", flip().step(row))
        self.does(("tick", "row", "flip", -1), "row", flip().unstep(row))
        self.does(("tick", "row", "flip", 12), "row", row)
        self.does(("tick", "row", "right", 12), "row", row >> 12)
        self.does(("tick", "row", "right", -12), "row", row << 12)
        self.does(("tick", "wide", "prog", 2), "wide", program().step(program().step(wide)))
        self.does(("tick", "wide", "prog", -2), "wide", program().unstep(program().unstep(wide)))
        self.does(("tick", "wide", "carry", 3), "wide", carry().step(carry().step(carry().step(wide))))
        floor = Floor([flip(), flip()])
        self.does(("tick", "row", "floor", 2), "row", floor.step(floor.step(row)))
        self.does(("tick", "row", "floor", -2), "row", floor.unstep(floor.unstep(row)))
        closed = Closed([flip()], [8])
        fitting = shop()
        fitting.run(("put", "row", Row((0,), (1, 0, 1, 1), (0,))))
        self.does(("tick", "row", "closed", 1), "row", closed.step(fitting.thing("row")), fitting)

    def test_a_count_of_0(self):
        # also if the row does not fit
        self.does(("tick", "wide", "flip", 0), "wide", Row((3,), (1, 2), (0,)))
        self.does(("tick", "wide", "closed", 0), "wide", Row((3,), (1, 2), (0,)))
        self.does(("tick", "row", "carry", 0), "row", ROW)

    def test_edit_and_carry(self):
        swap = swap_signs(TWO, 1, 0, 1)
        self.does(("edit", "row", "swap"), "row", swap.applied(ROW))
        for count in range(-4, 5):
            self.does(("carry", "swap", "right", count), "swap", carried_over(swap, move(2, 1), ticks=count))
        self.does(("carry", "swap", "flip", 1), "swap", carried_over(swap, flip()))
        self.does(("carry", "four", "carry", -1), "four", carried_over(swap_signs(Ground(4), 0, 1, 2), carry(), ticks=-1))

    def test_join_and_end(self):
        self.does(("join", "new", "carry", "right"), "new", Floor([carry(), move(2, 1)]))
        self.does(("join", "row", "right", "carry"), "row", Floor([move(2, 1), carry()]))
        self.does(("join", "flip", "flip", "flip"), "flip", Floor([flip(), flip()]))
        self.does(("end", "new", "flip", 8), "new", Closed([flip()], [8]))
        self.does(("end", "flip", "flip", 400), "flip", Closed([flip()], [400]))

    def test_say_and_unsay(self):
        told = some_seen()
        told.say("more", -20, 4, 3, 0, 3)
        self.does(("say", "seen", "more", -20, 4, (3, 0, 3)), "seen", told)
        self.does(("say", "seen", "more", -20, 4, [3, 0, 3]), "seen", told)
        told = some_seen()
        told.unsay("first")
        self.does(("unsay", "seen", "first"), "seen", told)


class WrongDeeds(Case):
    def refuses(self, error, told, deed, workshop=None):
        """Checks that a deed raises this error and changes nothing, alone and in a batch."""
        workshop = shop() if workshop is None else workshop
        workshop.run(("put", "gone", ROW))
        workshop.undo()
        before = state(workshop)
        self.fails(error, told, workshop.run, deed)
        self.assertEqual(state(workshop), before)
        self.fails(Refused, (1,), workshop.batch, [("put", "ahead", ROW), deed, ("drop", "nothing")])
        self.assertEqual(state(workshop), before)
        workshop.redo()
        self.assertTrue("gone" in workshop)

    def test_no_deeds(self):
        workshop = shop()
        wrong = (
            None, True, 0, "put", "", (), [], ["drop", "row"], ("drop",), ("drop", "row", "row"), ("put", "a"),
            ("put", "a", ROW, ROW), ("tick", "row", "flip"), ("tick", "row", "flip", 1, 1), ("edit", "row"),
            ("carry", "swap", "flip"), ("join", "a", "flip"), ("end", "a", "flip"), ("say", "seen", "a", 0, 0),
            ("say", "seen", "a", 0, 0, (1,), 1), ("unsay", "seen"), ("Put", "a", ROW), ("run", "a"), (None, "row"),
            (("drop",), "row"), ([], "row"), (0, "row"), ("", "row"), Ratio(1), [("drop", "row")], (("drop", "row"),),
            ("drop ", "row"), (True,), ("undo",), ("step", "row", "flip", 1),
        )
        for deed in wrong:
            self.fails(InvalidDeed, (0,), workshop.run, deed)
            self.fails(Refused, (0,), workshop.batch, [deed])
        self.assertEqual((workshop.journal(), len(workshop)), ([], 12))

    def test_names_to_be_given(self):
        for name in NO_NAMES:
            self.refuses(InvalidName, (name,), ("put", name, ROW))
            self.refuses(InvalidName, (name,), ("put", name, None))
            self.refuses(InvalidName, (name,), ("join", name, "nothing", "carry"))
            self.refuses(InvalidName, (name,), ("end", name, "nothing", None))

    def test_no_things(self):
        for value in NO_THINGS:
            self.refuses(InvalidThing, ("new",), ("put", "new", value))

    def test_unknown_names(self):
        for name in (*NO_NAMES, "nothing"):
            self.refuses(UnknownName, (name,), ("drop", name))
            self.refuses(UnknownName, (name,), ("tick", name, "nothing", None))
            self.refuses(UnknownName, (name,), ("tick", "row", name, 99))
            self.refuses(UnknownName, (name,), ("tick", "flip", name, 1))
            self.refuses(UnknownName, (name,), ("edit", name, "row"))
            self.refuses(UnknownName, (name,), ("edit", "swap", name))
            self.refuses(UnknownName, (name,), ("carry", name, "row", 9))
            self.refuses(UnknownName, (name,), ("carry", "row", name, 9))
            self.refuses(UnknownName, (name,), ("join", "new", name, None))
            self.refuses(UnknownName, (name,), ("join", "new", "row", name))
            self.refuses(UnknownName, (name,), ("end", "new", name, None))
            self.refuses(UnknownName, (name,), ("say", name, None, 0, 0, ()))
            self.refuses(UnknownName, (name,), ("unsay", name, None))

    def test_wrong_things(self):
        kinds = things()
        for name, thing in kinds.items():
            if not isinstance(thing, Row):
                self.refuses(WrongThing, (name,), ("tick", name, "swap", None))
                self.refuses(WrongThing, (name,), ("edit", name, "row"))
            if name not in ("flip", "carry", "right", "prog", "floor", "plain", "closed"):
                self.refuses(WrongThing, (name,), ("tick", "row", name, 13))
            if not isinstance(thing, Exchange):
                self.refuses(WrongThing, (name,), ("edit", "row", name))
                self.refuses(WrongThing, (name,), ("carry", name, "row", 9))
            if name not in ("flip", "carry", "right"):
                self.refuses(WrongThing, (name,), ("carry", "swap", name, 9))
                self.refuses(WrongThing, (name,), ("join", "new", name, "row"))
                self.refuses(WrongThing, (name,), ("join", "new", "flip", name))
                self.refuses(WrongThing, (name,), ("end", "new", name, None))
            if not isinstance(thing, Seen):
                self.refuses(WrongThing, (name,), ("say", name, None, 0, 0, ()))
                self.refuses(WrongThing, (name,), ("unsay", name, None))

    def test_counts(self):
        for count in (*NO_NUMBERS, 13, -13):
            self.refuses(InvalidNumber, (count,), ("tick", "wide", "flip", count))
        for count in (*NO_NUMBERS, 5, -5):
            self.refuses(InvalidNumber, (count,), ("carry", "four", "flip", count))

    def test_what_deeds_call(self):
        self.refuses(NotAllowed, (3, -1), ("tick", "wide", "flip", 1))
        self.refuses(NotAllowed, (3, -1), ("tick", "wide", "floor", -12))
        self.refuses(NotAllowed, (1, 9), ("tick", "row", "closed", 1))
        workshop = Workshop(row=Row((9,)), prog=program(), swap=swap_signs(TWO, 0, 0, 1), gone=ROW, seen=some_seen())
        self.refuses(NotAllowed, (9, 0), ("tick", "row", "prog", 2), workshop)
        self.refuses(NotAllowed, (9, 0), ("edit", "row", "swap"), workshop)
        self.refuses(UnlikeGrounds, (), ("carry", "four", "flip", 0))
        self.refuses(TooMany, ("words", 2 ** 13), ("carry", "swap", "flip", 2))
        self.refuses(UnlikeFlows, (Ratio(2), Ratio(1)), ("join", "new", "carry", "flip"))
        self.refuses(UnlikeFlows, (Ratio(1), Ratio(2)), ("end", "new", "carry", 4))
        self.refuses(TooNarrow, (1, 8), ("end", "new", "flip", 7))
        for cells in (*NO_NUMBERS, -1, 401):
            self.refuses(InvalidPart, (0,), ("end", "new", "flip", cells))

    def test_what_say_and_unsay_raise(self):
        for name in (None, True, "", "A", "ninechars", ["a"]):
            self.refuses(InvalidName, (name,), ("say", "seen", name, None, None, None))
            self.refuses(UnknownName, (name,), ("unsay", "seen", name))
        self.refuses(UnknownName, ("other",), ("unsay", "seen", "other"))
        self.refuses(DuplicateName, ("first",), ("say", "seen", "first", None, None, None))
        for signs in (None, True, 1, "1", "", {}, {1: 1}, (), [], (4,), [4], (True,), (1, None), [[1]], Ratio(1)):
            self.refuses(InvalidSaying, (), ("say", "seen", "more", 0, 0, signs))
        for cell in (*NO_NUMBERS, 21):
            self.refuses(InvalidSaying, (), ("say", "seen", "more", cell, 0, (1,)))
            self.refuses(InvalidSaying, (), ("say", "seen", "more", 0, cell, (1,)))
        workshop = Workshop(seen=some_seen(), row=ROW)
        for at in range(10):
            workshop.run(("say", "seen", "abcdefghij"[at], at, 0, (1,)))
        self.refuses(TooMany, ("sayings", 13), ("say", "seen", "k", 0, 0, None), workshop)
        self.refuses(DuplicateName, ("j",), ("say", "seen", "j", 0, 0, None), workshop)


class Undoing(Case):
    def test_in_turn(self):
        workshop = Workshop(row=ROW, flip=flip(), swap=swap_signs(TWO, 1, 0, 1))
        states = [state(workshop)]
        deeds = [
            ("tick", "row", "flip", 1), ("edit", "row", "swap"), ("put", "new", ROW), ("drop", "swap"),
            ("put", "new", flip()), ("drop", "new"), ("tick", "row", "flip", 0),
        ]
        for deed in deeds:
            workshop.run(deed)
            states.append(state(workshop))
        self.assertEqual(repr(workshop), "Workshop(2 things, 7 deeds)")
        self.fails(NothingLeft, (), workshop.redo)
        for told in states[-2::-1]:
            workshop.undo()
            self.assertEqual(state(workshop), told)
        self.fails(NothingLeft, (), workshop.undo)
        self.assertEqual(state(workshop), states[0])
        for told in states[1:]:
            workshop.redo()
            self.assertEqual(state(workshop), told)
        self.fails(NothingLeft, (), workshop.redo)
        self.assertEqual(state(workshop), states[-1])

    def test_a_deed_forgets_what_could_be_redone(self):
        workshop = Workshop(row=ROW, flip=flip())
        workshop.run(("tick", "row", "flip", 1))
        workshop.run(("tick", "row", "flip", 2))
        workshop.undo()
        # a deed that raises an error, an empty batch and a refused batch do nothing
        self.fails(UnknownName, ("none",), workshop.run, ("drop", "none"))
        workshop.batch([])
        self.fails(Refused, (1,), workshop.batch, [("drop", "row"), ("drop", "row")])
        workshop.redo()
        self.assertEqual(len(workshop.journal()), 2)
        workshop.undo()
        workshop.run(("tick", "row", "flip", 0))
        self.fails(NothingLeft, (), workshop.redo)
        workshop.undo()
        workshop.batch([("drop", "row")])
        self.fails(NothingLeft, (), workshop.redo)
        workshop.undo()
        workshop.undo()
        self.assertEqual((workshop.journal(), workshop.thing("row")), ([], ROW))
        workshop.redo()
        workshop.redo()
        self.assertEqual(workshop.journal(), [("tick", "row", "flip", 1), [("drop", "row")]])

    def test_batches(self):
        workshop = Workshop(row=ROW, flip=flip(), swap=swap_signs(TWO, 1, 0, 1))
        before = state(workshop)
        deeds = [
            ("put", "a", ROW), ("tick", "a", "flip", 1), ["x"], ("drop", "row"), ("put", "a", flip()), ("put", "row", ROW),
            ("edit", "row", "swap"),
        ]
        deeds.remove(["x"])
        self.assertIsNone(workshop.batch(deeds))
        told = [deed for deed in deeds]
        deeds.append(("drop", "a"))
        self.assertEqual(workshop.journal(), [told])
        self.assertEqual(repr(workshop), "Workshop(4 things, 1 deeds)")
        self.assertEqual((workshop.thing("a"), workshop.thing("row")), (flip(), swap_signs(TWO, 1, 0, 1).applied(ROW)))
        behind = state(workshop)
        workshop.undo()
        self.assertEqual(state(workshop), before)
        workshop.redo()
        self.assertEqual(state(workshop), behind)
        workshop.batch(deeds=(("drop", "a"),))
        self.assertEqual(workshop.journal(), [told, [("drop", "a")]])
        self.assertIs(type(workshop.journal()[1]), list)

    def test_wrong_deeds_in_batches(self):
        workshop = shop()
        before = state(workshop)
        right = [("drop", "row"), ("put", "row", ROW), ("tick", "row", "flip", 1)]
        wrong = (
            ("drop", "none"), ("tick", "wide", "flip", 1), None, [("drop", "row")], ("put", "A", ROW), ("edit", "flip", "swap"),
        )
        for deed in wrong:
            for at in range(4):
                self.fails(Refused, (at,), workshop.batch, right[:at] + [deed] + right[at:])
                self.assertEqual(state(workshop), before)
            self.fails(Refused, (0,), workshop.batch, [deed, deed])
        with self.assertRaises(Refused) as caught:
            workshop.batch(right + [("tick", "wide", "flip", 1)])
        self.shows(NotAllowed, (3, -1), caught.exception.__cause__)
        # a deed is tried behind the deeds ahead of it
        self.fails(Refused, (2,), workshop.batch, [("drop", "row"), ("drop", "wide"), ("tick", "row", "flip", 1)])
        self.assertEqual(state(workshop), before)
        self.fails(NothingLeft, (), workshop.undo)

    def test_empty_batches(self):
        workshop = shop()
        workshop.run(("drop", "row"))
        for empty in ([], ()):
            self.assertIsNone(workshop.batch(empty))
        self.assertEqual(workshop.journal(), [("drop", "row")])
        workshop.undo()
        self.assertTrue("row" in workshop)

    def test_many_deeds_at_random(self):
        chance = random.Random(1)
        workshop = Workshop(**things())
        names = ["row", "wide", "flip", "carry", "swap", "four", "seen", "new", "floor"]
        done, undone = [state(workshop)], []
        for _ in range(300):
            deed = chance.choice([
                ("drop", chance.choice(names)), ("put", chance.choice(names), chance.choice(list(things().values()))),
                ("put", "row", ROW), ("put", "flip", flip()), ("put", "seen", some_seen()),
                ("tick", "row", "flip", chance.randint(-2, 2)), ("tick", chance.choice(names), "floor", 1),
                ("edit", chance.choice(names), "swap"), ("join", "new", chance.choice(names), "flip"),
                ("say", "seen", chance.choice("abc"), 0, 0, [1]), ("unsay", "seen", chance.choice("abc")),
            ])
            kind = chance.random()
            if kind < 0.2 and len(done) > 1:
                workshop.undo()
                undone.append(done.pop())
            elif kind < 0.35 and undone:
                workshop.redo()
                done.append(undone.pop())
            else:
                deeds = [deed, ("put", "last", ROW)]
                try:
                    workshop.batch(deeds) if kind > 0.8 else workshop.run(deed)
                except (ValueError, LookupError):
                    pass
                else:
                    done.append(state(workshop))
                    undone = []
            self.assertEqual(state(workshop), done[-1])
        self.assertGreater(len(done), 10)
        self.assertEqual(state(Workshop.replay(workshop.journal(), **things())), state(workshop))


class Journals(Case):
    def test_signs_that_were_given_as_a_list(self):
        workshop = shop()
        signs = [1, 2]
        workshop.run(("say", "seen", "a", 0, 0, signs))
        workshop.batch([("say", "seen", "b", 0, 0, signs), ("say", "seen", "c", 0, 0, (1, 2))])
        signs.append(3)
        told = [("say", "seen", "a", 0, 0, [1, 2]), [("say", "seen", "b", 0, 0, [1, 2]), ("say", "seen", "c", 0, 0, (1, 2))]]
        self.assertEqual(workshop.journal(), told)
        journal = workshop.journal()
        journal[0][5].append(3)
        journal[1][0][5].clear()
        journal[1].pop()
        journal.pop()
        self.assertEqual(workshop.journal(), told)
        workshop.undo()
        workshop.redo()
        self.assertEqual(workshop.journal(), told)
        self.assertEqual(workshop.thing("seen").sayings()[2:], [(name, 0, 0, (1, 2)) for name in "abc"])

    def test_replay(self):
        workshop = shop()
        workshop.run(("put", "s", some_seen()))
        workshop.batch([("say", "s", "a", 0, 0, [1, 2]), ("tick", "row", "flip", 3), ("drop", "plain")])
        workshop.run(("join", "new", "carry", "right"))
        workshop.undo()
        workshop.run(("end", "new", "flip", 9))
        for journal in (workshop.journal(), tuple(workshop.journal())):
            again = Workshop.replay(journal, **things())
            self.assertIs(type(again), Workshop)
            self.assertEqual(state(again), state(workshop))
        again = Workshop.replay(journal_rows=workshop.journal(), **things())
        self.assertEqual(state(again), state(workshop))
        for _ in range(3):
            again.undo()
        self.assertEqual(state(again), state(shop()))
        self.assertEqual(state(Workshop.replay([])), state(Workshop()))
        self.assertEqual(state(Workshop.replay([[], []], a=ROW)), state(Workshop(a=ROW)))
        self.assertEqual(state(shop().replay([("drop", "a")], a=ROW))[0], {})

    def test_a_journal_that_is_changed_behind_the_call(self):
        workshop = shop()
        journal = [("put", "s", some_seen()), [("say", "s", "a", 0, 0, [1, 2])]]
        again = Workshop.replay(journal, **things())
        journal[0][2].unsay("first")
        journal[1][0][5].append(3)
        journal[1].clear()
        told = some_seen()
        told.say("a", 0, 0, 1, 2)
        self.assertEqual(again.thing("s"), told)
        self.assertEqual(again.journal(), [("put", "s", some_seen()), [("say", "s", "a", 0, 0, [1, 2])]])
        self.assertEqual(workshop.journal(), [])

    def test_journals_that_can_not_be_replayed(self):
        self.fails(InvalidName, ("A",), Workshop.replay, [None], A=ROW, b=None)
        self.fails(InvalidThing, ("b",), Workshop.replay, [None], a=ROW, b=None)
        for wrong in (None, 0, "drop", ("drop",), ()):
            self.fails(InvalidDeed, (0,), Workshop.replay, [("drop", "a"), wrong], a=ROW)
        self.fails(UnknownName, ("a",), Workshop.replay, [("drop", "a"), ("drop", "a")], a=ROW)
        self.fails(Refused, (1,), Workshop.replay, [("put", "b", ROW), [("drop", "a"), ("drop", "a")]], a=ROW)
        self.fails(Refused, (0,), Workshop.replay, [[[("drop", "a")]]], a=ROW)

    def test_lists_are_new(self):
        workshop = shop()
        workshop.names().clear()
        workshop.journal().append(None)
        self.assertEqual((len(workshop.names()), workshop.journal()), (12, []))


class Answers(Case):
    def shop(self):
        one, other = Floor([move(2, 1)]), Floor([move(2, 1), move(2, 1)], matchings=[(1, 0, 3, 2)])
        edited = one.with_edit(Exchange(TWO, 0, 2, (1, 2, 0, 3)))
        return Workshop(one=one, other=other, edited=edited, seen=some_seen(), more=some_seen(), row=ROW, wide=Floor([flip()]))

    def test_worked_out_once(self):
        workshop = self.shop()
        self.assertEqual(workshop.worked, 0)
        for _ in range(3):
            self.assertEqual(workshop.share_of("seen"), some_seen().share)
            self.assertEqual(workshop.worked, 1)
        self.assertEqual(workshop.share_of(name="more"), some_seen().share)
        self.assertEqual(workshop.worked, 2)
        for _ in range(2):
            told = workshop.difference_of("one", "edited")
            self.assertEqual(told, difference(workshop.thing("one"), workshop.thing("edited")))
            self.assertEqual(workshop.worked, 3)
        self.assertEqual(workshop.difference_of(other="one", one="edited"), ~told)
        self.assertEqual(workshop.worked, 4)
        self.assertTrue(workshop.difference_of("one", "one").is_empty())
        self.assertEqual(workshop.worked, 5)
        workshop.difference_of("one", "one")
        self.assertEqual((workshop.worked, workshop.journal()), (5, []))

    def test_what_touches_a_name(self):
        touches = (
            (("say", "seen", "a", 0, 0, (1,)), True), (("unsay", "seen", "next"), True), (("put", "seen", some_seen()), True),
            (("say", "more", "a", 0, 0, (1,)), False), (("put", "row", ROW), False), (("drop", "one"), False),
        )
        for deed, touched in touches:
            workshop = self.shop()
            share = workshop.share_of("seen")
            workshop.run(deed)
            told = workshop.thing("seen").share
            self.assertEqual((workshop.share_of("seen"), workshop.worked), (told, 1 + touched), deed)
            workshop.undo()
            self.assertEqual((workshop.share_of("seen"), workshop.worked), (share, 1 + 2 * touched))
            workshop.redo()
            self.assertEqual((workshop.share_of("seen"), workshop.worked), (told, 1 + 3 * touched))
            workshop.share_of("seen")
            self.assertEqual(workshop.worked, 1 + 3 * touched)

    def test_either_name_of_a_difference(self):
        for name in ("one", "edited"):
            workshop = self.shop()
            told = workshop.difference_of("one", "edited")
            same_one = workshop.difference_of("other", "other")
            workshop.run(("put", name, workshop.thing(name)))
            self.assertEqual((workshop.difference_of("one", "edited"), workshop.worked), (told, 3))
            self.assertEqual((workshop.difference_of("other", "other"), workshop.worked), (same_one, 3))
            workshop.undo()
            workshop.difference_of("one", "edited")
            self.assertEqual(workshop.worked, 4)

    def test_things_with_the_names_of_questions(self):
        workshop = Workshop(share=some_seen(), seen=some_seen(), one=Floor([flip()]))
        workshop.share_of("seen")
        workshop.run(("put", "share", some_seen()))
        self.assertEqual((workshop.share_of("seen"), workshop.worked), (some_seen().share, 1))
        workshop.share_of("share")
        workshop.run(("unsay", "share", "first"))
        workshop.share_of("share")
        self.assertEqual(workshop.worked, 3)

    def test_deeds_that_change_nothing(self):
        workshop = self.shop()
        workshop.share_of("seen")
        self.fails(DuplicateName, ("first",), workshop.run, ("say", "seen", "first", 0, 0, (1,)))
        self.fails(Refused, (1,), workshop.batch, [("drop", "seen"), ("drop", "seen")])
        workshop.batch([])
        self.fails(NothingLeft, (), workshop.undo)
        self.fails(NothingLeft, (), workshop.redo)
        workshop.share_of("seen")
        self.assertEqual(workshop.worked, 1)

    def test_batches_touch_all_their_names(self):
        workshop = self.shop()
        workshop.share_of("seen")
        workshop.share_of("more")
        workshop.difference_of("one", "edited")
        workshop.batch([("put", "seen", some_seen()), ("put", "edited", workshop.thing("edited"))])
        workshop.share_of("more")
        self.assertEqual(workshop.worked, 3)
        workshop.share_of("seen")
        workshop.difference_of("one", "edited")
        self.assertEqual(workshop.worked, 5)
        workshop.undo()
        workshop.share_of("seen")
        workshop.difference_of("one", "edited")
        workshop.share_of("more")
        self.assertEqual(workshop.worked, 7)

    def test_a_name_with_another_thing(self):
        workshop = self.shop()
        workshop.share_of("seen")
        workshop.run(("drop", "seen"))
        self.fails(UnknownName, ("seen",), workshop.share_of, "seen")
        workshop.run(("put", "seen", ROW))
        self.fails(WrongThing, ("seen",), workshop.share_of, "seen")
        workshop.run(("put", "seen", Seen(flip())))
        self.assertEqual((workshop.share_of("seen"), workshop.worked), (Ratio(1), 2))

    def test_questions_that_raise_an_error(self):
        workshop = self.shop()
        for name in (*NO_NAMES, "none"):
            self.fails(UnknownName, (name,), workshop.share_of, name)
            self.fails(UnknownName, (name,), workshop.difference_of, name, None)
            self.fails(UnknownName, (name,), workshop.difference_of, "one", name)
            self.fails(WrongThing, ("row",), workshop.difference_of, "row", name)
        for name in ("one", "row", "wide"):
            self.fails(WrongThing, (name,), workshop.share_of, name)
        for name in ("seen", "row"):
            self.fails(WrongThing, (name,), workshop.difference_of, name, "none")
            self.fails(WrongThing, (name,), workshop.difference_of, "one", name)
        for _ in range(2):
            self.fails(UnlikeFloors, (), workshop.difference_of, "one", "wide")
        late = Seen(flip())
        late.say("a", 0, 4, 1)
        workshop.run(("put", "late", late))
        for _ in range(2):
            self.fails(TooMany, ("table", 2 ** 13), workshop.share_of, "late")
        self.assertEqual(workshop.worked, 0)
        workshop.run(("unsay", "late", "a"))
        self.assertEqual((workshop.share_of("late"), workshop.worked), (Ratio(1), 1))

    def test_closed_floors(self):
        floor = Closed([flip()], [8])
        workshop = Workshop(a=floor, b=floor.with_edit(swap_signs(floor.ground, 2, 0, 1)), c=Floor([wall(), flip(), wall()], widths=[8]))
        self.assertEqual(workshop.difference_of("a", "b"), swap_signs(floor.ground, 2, 0, 1))
        self.assertTrue(workshop.difference_of("c", "a").is_empty())


class Twins(Case):
    def test_led_apart(self):
        workshop = shop()
        workshop.run(("tick", "row", "flip", 1))
        workshop.batch([("say", "seen", "a", 0, 0, [1]), ("drop", "swap")])
        workshop.undo()
        workshop.share_of("seen")
        twin = workshop.twin()
        self.assertIs(type(twin), Workshop)
        self.assertEqual(state(twin), state(workshop))
        # the kept answers and what can be redone come with it
        twin.share_of("seen")
        self.assertEqual(twin.worked, 1)
        twin.redo()
        self.assertEqual((len(twin.journal()), len(workshop.journal())), (2, 1))
        self.assertEqual(("swap" in twin, "swap" in workshop), (False, True))
        twin.share_of("seen")
        self.assertEqual((twin.worked, workshop.worked), (2, 1))
        workshop.share_of("seen")
        self.assertEqual(workshop.worked, 1)
        told = state(twin)
        workshop.redo()
        workshop.run(("drop", "row"))
        self.assertEqual(state(twin), told)
        twin.undo()
        twin.undo()
        self.fails(NothingLeft, (), twin.undo)
        self.assertEqual(state(twin)[0], things())
        self.assertEqual(len(workshop.journal()), 3)


if __name__ == "__main__":
    unittest.main()
