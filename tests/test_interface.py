"""The interface as a whole: names, parameters and defaults, calls by names, what equals what, and truth."""

import importlib
import inspect
import types
import unittest

from borderflow import errors
from borderflow.deeds import deed_span
from borderflow.floors import Closed, Floor
from borderflow.machines import move, same, wall
from borderflow.ratios import Ratio
from borderflow.rows import Row
from borderflow.rules import move_rule, same_rule, sum_rule
from borderflow.seen import Seen
from borderflow.workshop import Workshop
from tests import objects
from tests.cases import CARRY, Case
from tests.known import carry, flip

# the functions and classes of each module, and below a class its methods
INTERFACE = """
ratios
    Ratio(top, bottom=1)
        raised(k)
        power(prime)
    count_ratio(part, whole)
words
    is_number(value, least, most)
    is_word(value, signs)
    word_index(word, signs)
    word_at(index, length, signs)
    all_words(length, signs, *, most=4096)
rows
    Row(left, told=(), right=None, *, start=0)
        word(first, end)
        changed(cell, word)
        strange(signs)
        apart(other)
        text()
        static read(text)
rules
    Rule(signs, low, high, table)
        on_word(word)
        ring_step(ring)
        step(row)
        raised(k)
        text()
        static read(text)
    same_rule(signs)
    move_rule(signs, d)
    sum_rule(signs, low, high)
shapes
    mirrored(rule)
    renamed(rule, names)
    grouped(rule, m)
    row_grouped(row, signs, m)
    row_split(row, signs, m)
    first_unlike(one, other)
meeting
    meeting_rings(rule)
    loses_nothing(rule)
    rings_meet(rule, one, other)
machines
    Machine(rule)
        step(row)
        unstep(row)
        ring_step(ring)
        ring_unstep(ring)
        raised(k)
        mirrored()
        renamed(names)
        grouped(m)
    machine_of(rule, back)
    leads_back(rule, back)
    known_machine(rule, back)
    wall()
    same(signs)
    move(signs, d)
halves
    halves(machine, context, *, side, reach=None)
    is_halves(machine, context, value, *, side, reach=None)
    counts(machine, *, reach=None)
    left_number(machine, row, border)
    right_number(machine, row, border)
crossings
    Crossing(machine, left_guard, right_guard)
        numbers(word)
        middle(left_number, right_number)
        pairs()
        filled(left_number, right_number, border)
deeds
    is_sizes(value)
    is_deed(sizes, value)
    inverse_deed(sizes, deed)
    deed_span(sizes, deed)
    deed_text(deed)
    track_values(sizes, sign)
    sign_of(sizes, values)
programs
    Program(sizes, *deeds)
        deeds()
        step(row)
        unstep(row)
        as_rule()
        as_machine()
        text()
        static read(text)
grounds
    Ground(first, *parts)
        parts()
        word_count(first, end)
        number_of(at, word)
        word_of(first, end, index)
        strange(row)
        static even(signs)
seams
    Seam(one, other, *, matching=None)
        numbers(word)
        middle(left_number, right_number)
speeds
    speed(one_flow, one_signs, other_flow, other_signs)
    common_frame(parts)
    framed(machine, frame)
    framed_flow(flow, signs, frame)
exchanges
    Exchange(ground, start, end, table)
        applied(row)
        raised(k)
        order()
        is_empty()
    clash(one, other)
    swap_signs(ground, cell, one, other)
carrying
    carry(exchange, machine, *, ticks=1)
floors
    Floor(machines, *, widths=(), matchings=None, edits=(), frame=(1, 0))
        machines()
        borders()
        seams()
        widths()
        edits()
        zones()
        machine_at(cell)
        step(row)
        unstep(row)
        crossing(row, seam)
        with_edit(exchange)
    Closed(machines, widths, *, matchings=None, edits=())
        with_edit(exchange)
        word_step(word)
        word_unstep(word)
        home(word)
        rounds()
    moving_floor(machines, *, widths=(), matchings=None)
middles
    zone_out(machine, right_number, inner, left_number)
    zone_in(machine, word)
    Middle(machine, word)
        property present
        property ticks
        left_end()
        inner()
        right_end()
        tick(right_number, left_number)
        untick(left_end, right_end)
        drive(pairs)
        twin()
    crossing_log(floor, row, count)
counting
    border_halves(floor, border, context, *, side, reach=None)
    border_counts(floor, border, *, reach=None)
kin
    are_kin(one, other)
    difference(one, other)
    floors_alike(one, other)
walks
    Walk(floor, row)
        property row
        property ticks
        property place
        tick(count=1)
        change(exchange)
        shown(first=-5, end=5)
        return_to(ticks)
        twin()
movers
    movers(machine)
    with_movers(machine)
swaps
    Swaps(machine, partner, ring)
        property partner
        property main
        property ticks
        swap(cell)
        swap_all(*cells)
        done()
        cells_left()
        finish()
        back_out()
        twin()
    swapped(machine, partner, ring, cell)
seen
    Seen(machine)
        say(name, cell, tick, *signs)
        unsay(name)
        sayings()
        stretch(tick=0)
        ways(tick=0)
        share_at(tick=0)
        property share
        stands(tick=0)
        clashing(tick=0)
        possible(cell, tick=0)
        sure(cell, tick=0)
        row_with(cell, sign, tick=0)
        require(tick=0)
        twin()
between
    SeenBetween(floor)
        say(name, cell, tick, *signs)
        say_crossing(name, seam, tick, *pairs)
        unsay(name)
        sayings()
        good_words(tick=0)
        ways()
        property share
        stands()
        clashing()
        possible(cell, tick=0)
        possible_crossings(seam, tick=0)
        require()
        twin()
lots
    lots(seen, tick=0)
    are_closed(seen, value, tick=0)
fringes
    pasts(machine, word)
    past_count(machine, word)
    fringes(machine, word)
    told_cells(machine, word)
papers
    is_right(value)
    back_paper(machine)
    flow_paper(machine, context)
    seam_paper(seam)
    carry_paper(exchange, machine)
    loses_paper(rule)
    unlike_paper(one, other)
    lots_paper(seen, tick=0)
workshop
    is_shop_name(value)
    is_thing(value)
    Workshop(**things)
        run(deed)
        batch(deeds)
        undo()
        redo()
        journal()
        static replay(journal_rows, **things)
        names()
        thing(name)
        share_of(name)
        difference_of(one, other)
        property worked
        twin()
"""
OPERATORS = {
    "Ratio": "mul invert pow eq str repr", "Row": "getitem rshift lshift eq str repr",
    "Rule": "add mul rshift lshift pow eq str repr", "Machine": "add mul rshift lshift invert pow eq repr",
    "Crossing": "len repr", "Program": "invert add eq len str repr", "Ground": "getitem rshift eq repr",
    "Seam": "eq len repr", "Exchange": "add invert pow eq repr", "Floor": "eq len repr", "Closed": "eq repr",
    "Middle": "len repr", "Walk": "repr", "Swaps": "len repr", "Seen": "contains len add eq repr",
    "SeenBetween": "contains len repr", "Workshop": "contains len repr",
}
# the methods and functions that any number of arguments may be passed
MANY = ("Program", "Ground", "Swaps.swap_all", "Seen.say", "SeenBetween.say", "SeenBetween.say_crossing", "Workshop")


def entries():
    """The pairs (path, entry) of the interface: the path is (module, name) or (module, class, name)."""
    found = []
    module = above = None
    for line in INTERFACE.strip().split("\n"):
        entry = line.strip()
        name = entry.split("(")[0].split(" ")[-1]
        if not line.startswith(" "):
            module = entry
        elif not line.startswith("        "):
            above = name
            found.append(((module, name), entry))
        else:
            found.append(((module, above, name), entry))
    return found


def thing_at(path):
    """What the interface lists at a path; a method is taken from the class itself."""
    thing = getattr(importlib.import_module("borderflow." + path[0]), path[1])
    return thing if len(path) == 2 else vars(thing)[path[2]]


def parameters(thing):
    found = list(inspect.signature(thing).parameters.values())
    return found[1:] if found and found[0].name == "self" else found


def two(signs=2):
    return objects.Ground(signs)


# what is called, by its path without the module, and what is passed: by position, and behind a bar by keyword alone
CALLS = {
    "Ratio": lambda: (Ratio, 4, 6),
    "Ratio.raised": lambda: (objects.ratio().raised, -3),
    "Ratio.power": lambda: (objects.ratio().power, 3),
    "count_ratio": lambda: ("ratios", 6, 4),
    "is_number": lambda: ("words", 3, 1, 5),
    "is_word": lambda: ("words", (0, 3), 4),
    "word_index": lambda: ("words", (0, 3, 1), 4),
    "word_at": lambda: ("words", 7, 3, 2),
    "all_words": lambda: ("words", 2, 3, {"most": 9}),
    "Row": lambda: (Row, (0, 1), (1, 1), (0,), {"start": 3}),
    "Row.word": lambda: (objects.row().word, -2, 3),
    "Row.changed": lambda: (objects.row().changed, 1, (1, 1)),
    "Row.strange": lambda: (objects.row().strange, 1),
    "Row.apart": lambda: (objects.row().apart, Row((0,))),
    "Row.text": lambda: (objects.row().text,),
    "Row.read": lambda: (Row.read, "row 3\n0\n\n1\n"),
    "Rule": lambda: ("rules", 4, -1, 0, CARRY),
    "Rule.on_word": lambda: (objects.rule().on_word, (0, 1, 2)),
    "Rule.ring_step": lambda: (objects.rule().ring_step, (0, 1, 2)),
    "Rule.step": lambda: (objects.rule().step, objects.row()),
    "Rule.raised": lambda: (objects.rule().raised, 2),
    "Rule.text": lambda: (objects.rule().text,),
    "Rule.read": lambda: (type(objects.rule()).read, "rule 2 0 0\n1 0\n"),
    "same_rule": lambda: ("rules", 3),
    "move_rule": lambda: ("rules", 3, 2),
    "sum_rule": lambda: ("rules", 3, -1, 1),
    "mirrored": lambda: ("shapes", objects.rule()),
    "renamed": lambda: ("shapes", objects.rule(), [1, 0, 3, 2]),
    "grouped": lambda: ("shapes", objects.rule(), 2),
    "row_grouped": lambda: ("shapes", objects.row(), 2, 2),
    "row_split": lambda: ("shapes", Row((3,), (1, 2)), 2, 2),
    "first_unlike": lambda: ("shapes", objects.rule(), same_rule(4)),
    "meeting_rings": lambda: ("meeting", sum_rule(2, 0, 1)),
    "loses_nothing": lambda: ("meeting", objects.rule()),
    "rings_meet": lambda: ("meeting", sum_rule(2, 0, 1), (0,), (1,)),
    "Machine": lambda: ("machines", objects.rule()),
    "Machine.step": lambda: (carry().step, objects.row()),
    "Machine.unstep": lambda: (carry().unstep, objects.row()),
    "Machine.ring_step": lambda: (carry().ring_step, (0, 1, 2)),
    "Machine.ring_unstep": lambda: (carry().ring_unstep, (0, 1, 2)),
    "Machine.raised": lambda: (carry().raised, -2),
    "Machine.mirrored": lambda: (carry().mirrored,),
    "Machine.renamed": lambda: (carry().renamed, (1, 0, 3, 2)),
    "Machine.grouped": lambda: (carry().grouped, 2),
    "machine_of": lambda: ("machines", carry().rule, carry().back),
    "leads_back": lambda: ("machines", carry().rule, carry().rule),
    "known_machine": lambda: ("machines", carry().rule, carry().back),
    "wall": lambda: ("machines",),
    "same": lambda: ("machines", 3),
    "move": lambda: ("machines", 3, -1),
    "halves": lambda: ("halves", carry(), (0, 1), {"side": "left", "reach": 1}),
    "is_halves": lambda: ("halves", carry(), (0, 1), [(0, 1)], {"side": "left", "reach": 1}),
    "counts": lambda: ("halves", carry(), {"reach": 2}),
    "left_number": lambda: ("halves", carry(), objects.row(), 2),
    "right_number": lambda: ("halves", carry(), objects.row(), 2),
    "Crossing": lambda: ("crossings", carry(), (0, 1), (2, 3)),
    "Crossing.numbers": lambda: (objects.crossing().numbers, (2, 1)),
    "Crossing.middle": lambda: (objects.crossing().middle, 1, 5),
    "Crossing.pairs": lambda: (objects.crossing().pairs,),
    "Crossing.filled": lambda: (objects.crossing().filled, 1, 5, 9),
    "is_sizes": lambda: ("deeds", [2, 3]),
    "is_deed": lambda: ("deeds", (2, 3), ("move", 1, 2)),
    "inverse_deed": lambda: ("deeds", (2, 3), ("move", 1, 2)),
    "deed_span": lambda: ("deeds", (2, 3), ("move", 1, 2)),
    "deed_text": lambda: ("deeds", ("move", 1, 2)),
    "track_values": lambda: ("deeds", (2, 3), 5),
    "sign_of": lambda: ("deeds", (2, 3), (1, 2)),
    "Program.deeds": lambda: (objects.program().deeds,),
    "Program.step": lambda: (objects.program().step, objects.row()),
    "Program.unstep": lambda: (objects.program().unstep, objects.row()),
    "Program.as_rule": lambda: (objects.program().as_rule,),
    "Program.as_machine": lambda: (objects.program().as_machine,),
    "Program.text": lambda: (objects.program().text,),
    "Program.read": lambda: (type(objects.program()).read, "program 2 2\nmove 0 1\n"),
    "Ground.parts": lambda: (objects.ground().parts,),
    "Ground.word_count": lambda: (objects.ground().word_count, -2, 1),
    "Ground.number_of": lambda: (objects.ground().number_of, -1, (3, 1)),
    "Ground.word_of": lambda: (objects.ground().word_of, -1, 1, 6),
    "Ground.strange": lambda: (objects.ground().strange, Row((3,))),
    "Ground.even": lambda: (objects.Ground.even, 5),
    "Seam": lambda: ("seams", carry(), move(2, 1), {"matching": [1, 0, 2, 3, 4, 5, 6, 7]}),
    "Seam.numbers": lambda: (objects.seam().numbers, (3, 1)),
    "Seam.middle": lambda: (objects.seam().middle, 1, 2),
    "speed": lambda: ("speeds", Ratio(2), 8, Ratio(1), 2),
    "common_frame": lambda: ("speeds", [(Ratio(2), 8), (Ratio(1), 2)]),
    "framed": lambda: ("speeds", carry(), (2, 1)),
    "framed_flow": lambda: ("speeds", Ratio(2), 8, (2, 1)),
    "Exchange": lambda: ("exchanges", two(), 1, 3, (1, 2, 0, 3)),
    "Exchange.applied": lambda: (objects.exchange().applied, objects.row()),
    "Exchange.raised": lambda: (objects.exchange().raised, 2),
    "Exchange.order": lambda: (objects.exchange().order,),
    "Exchange.is_empty": lambda: (objects.exchange().is_empty,),
    "clash": lambda: ("exchanges", objects.exchange(), objects.SWAP),
    "swap_signs": lambda: ("exchanges", two(3), 7, 0, 2),
    "carry": lambda: ("carrying", objects.SWAP, flip(), {"ticks": -1}),
    "Floor": lambda: (
        "floors", [same(2), same(3), same(2)],
        {"widths": [3], "matchings": [None, (0,)], "edits": [], "frame": (2, 0)},
    ),
    "Floor.machines": lambda: (objects.floor().machines,),
    "Floor.borders": lambda: (objects.floor().borders,),
    "Floor.seams": lambda: (objects.floor().seams,),
    "Floor.widths": lambda: (objects.floor().widths,),
    "Floor.edits": lambda: (objects.floor().edits,),
    "Floor.zones": lambda: (objects.floor().zones,),
    "Floor.machine_at": lambda: (objects.floor().machine_at, 3),
    "Floor.step": lambda: (objects.floor().step, objects.row()),
    "Floor.unstep": lambda: (objects.floor().unstep, objects.row()),
    "Floor.crossing": lambda: (objects.floor().crossing, objects.row(), 0),
    "Floor.with_edit": lambda: (objects.floor().with_edit, objects.SWAP),
    "Closed": lambda: ("floors", [same(2)], [3], {"matchings": [None, [0]], "edits": ()}),
    "Closed.with_edit": lambda: (objects.closed().with_edit, objects.swap_signs(objects.closed().ground, 1, 0, 1)),
    "Closed.word_step": lambda: (objects.closed().word_step, (0, 1, 1)),
    "Closed.word_unstep": lambda: (objects.closed().word_unstep, (0, 1, 1)),
    "Closed.home": lambda: (objects.closed().home, (0, 1, 1)),
    "Closed.rounds": lambda: (objects.closed().rounds,),
    "moving_floor": lambda: ("floors", [carry(), same(2), carry()], {"widths": [4], "matchings": None}),
    "zone_out": lambda: ("middles", carry(), 3, (0, 1, 2), 1),
    "zone_in": lambda: ("middles", carry(), (0, 1, 2, 3, 0)),
    "Middle": lambda: ("middles", flip(), (0,) * 8),
    "Middle.left_end": lambda: (objects.middle().left_end,),
    "Middle.inner": lambda: (objects.middle().inner,),
    "Middle.right_end": lambda: (objects.middle().right_end,),
    "Middle.tick": lambda: (objects.middle().tick, 1, 2),
    "Middle.untick": lambda: (objects.middle().untick, (0, 1), (1, 1)),
    "Middle.drive": lambda: (objects.middle().drive, [(1, 2), (0, 3)]),
    "Middle.twin": lambda: (objects.middle().twin,),
    "crossing_log": lambda: ("middles", objects.floor(), objects.row(), 3),
    "border_halves": lambda: ("counting", Floor([same(2)]), 0, (0, 1), {"side": "left", "reach": 1}),
    "border_counts": lambda: ("counting", Floor([same(2)]), 0, {"reach": 2}),
    "are_kin": lambda: ("kin", objects.closed(), Floor([wall(), same(2), wall()], widths=[3])),
    "difference": lambda: ("kin", Floor([flip()]), Floor([flip()], edits=[objects.exchange()])),
    "floors_alike": lambda: ("kin", Floor([flip()]), Floor([flip()], edits=[objects.exchange()])),
    "Walk": lambda: ("walks", objects.floor(), objects.row()),
    "Walk.tick": lambda: (objects.walk().tick, -2),
    "Walk.change": lambda: (objects.walk().change, objects.exchange()),
    "Walk.shown": lambda: (objects.walk().shown, -2, 4),
    "Walk.return_to": lambda: (objects.walk().return_to, 5),
    "Walk.twin": lambda: (objects.walk().twin,),
    "movers": lambda: ("movers", carry()),
    "with_movers": lambda: ("movers", carry()),
    "Swaps": lambda: ("swaps", flip(), (0, 1), (1, 1)),
    "Swaps.swap": lambda: (objects.swaps().swap, 1),
    "Swaps.done": lambda: (objects.swaps().done,),
    "Swaps.cells_left": lambda: (objects.swaps().cells_left,),
    "Swaps.finish": lambda: (objects.swaps().finish,),
    "Swaps.back_out": lambda: (objects.swaps().back_out,),
    "Swaps.twin": lambda: (objects.swaps().twin,),
    "swapped": lambda: ("swaps", flip(), (0, 1, 0), (1, 1, 0), 2),
    "Seen": lambda: ("seen", carry()),
    "Seen.unsay": lambda: (objects.seen().unsay, "one"),
    "Seen.sayings": lambda: (objects.seen().sayings,),
    "Seen.stretch": lambda: (objects.seen().stretch, 1),
    "Seen.ways": lambda: (objects.seen().ways, 1),
    "Seen.share_at": lambda: (objects.seen().share_at, 1),
    "Seen.stands": lambda: (objects.seen().stands, 1),
    "Seen.clashing": lambda: (objects.seen().clashing, 1),
    "Seen.possible": lambda: (objects.seen().possible, 1, 1),
    "Seen.sure": lambda: (objects.seen().sure, 1, 1),
    "Seen.row_with": lambda: (objects.seen().row_with, 1, 3, 1),
    "Seen.require": lambda: (objects.seen().require, 1),
    "Seen.twin": lambda: (objects.seen().twin,),
    "SeenBetween": lambda: ("between", objects.closed()),
    "SeenBetween.unsay": lambda: (objects.between().unsay, "one"),
    "SeenBetween.sayings": lambda: (objects.between().sayings,),
    "SeenBetween.good_words": lambda: (objects.between().good_words, 1),
    "SeenBetween.ways": lambda: (objects.between().ways,),
    "SeenBetween.stands": lambda: (objects.between().stands,),
    "SeenBetween.clashing": lambda: (objects.between().clashing,),
    "SeenBetween.possible": lambda: (objects.between().possible, 1, 1),
    "SeenBetween.possible_crossings": lambda: (objects.between().possible_crossings, 1, 1),
    "SeenBetween.require": lambda: (objects.between().require,),
    "SeenBetween.twin": lambda: (objects.between().twin,),
    "lots": lambda: ("lots", objects.seen(), 1),
    "are_closed": lambda: ("lots", objects.seen(), [[()]], 1),
    "pasts": lambda: ("fringes", carry(), (0, 1)),
    "past_count": lambda: ("fringes", carry(), (0, 1)),
    "fringes": lambda: ("fringes", carry(), (0, 1, 2, 3)),
    "told_cells": lambda: ("fringes", carry(), (0, 1, 2, 3)),
    "is_right": lambda: ("papers", ("back", carry().rule, carry().back)),
    "back_paper": lambda: ("papers", carry()),
    "flow_paper": lambda: ("papers", carry(), (0, 1)),
    "seam_paper": lambda: ("papers", objects.seam()),
    "carry_paper": lambda: ("papers", objects.SWAP, flip()),
    "loses_paper": lambda: ("papers", sum_rule(2, 0, 1)),
    "unlike_paper": lambda: ("papers", same_rule(2), move_rule(2, 1)),
    "lots_paper": lambda: ("papers", objects.seen(), 1),
    "is_shop_name": lambda: ("workshop", "row"),
    "is_thing": lambda: ("workshop", objects.row()),
    "Workshop.run": lambda: (objects.shop().run, ("drop", "row")),
    "Workshop.batch": lambda: (objects.shop().batch, [("drop", "row")]),
    "Workshop.undo": lambda: (objects.shop().undo,),
    "Workshop.redo": lambda: (objects.undone().redo,),
    "Workshop.journal": lambda: (objects.shop().journal,),
    "Workshop.replay": lambda: (Workshop.replay, [("drop", "a")], {"a": objects.row(), "b": objects.row()}),
    "Workshop.names": lambda: (objects.shop().names,),
    "Workshop.thing": lambda: (objects.shop().thing, "seen"),
    "Workshop.share_of": lambda: (objects.shop().share_of, "seen"),
    "Workshop.difference_of": lambda: (objects.shop().difference_of, "floor", "floor"),
    "Workshop.twin": lambda: (objects.shop().twin,),
}


def told(value):
    """A text of a value and of what it shows of its state."""
    if isinstance(value, types.GeneratorType):
        return told(list(value))
    if isinstance(value, (list, tuple)):
        return type(value).__name__ + str([told(item) for item in value])
    shown = [repr(value)]
    for name in ("text", "sayings", "journal", "deeds", "parts", "done", "names"):
        if callable(getattr(value, name, None)):
            shown.append(repr(getattr(value, name)()))
    for name in ("table", "rule", "present", "row", "ticks", "main", "partner", "left_guard", "matching", "frame"):
        if hasattr(value, name):
            shown.append(repr(getattr(value, name)))
    return " ".join(shown)


class Interface(Case):
    def test_names_and_parameters(self):
        for path, entry in entries():
            thing = thing_at(path)
            if entry.startswith("property "):
                self.assertIsInstance(thing, property, path)
                continue
            if entry.startswith("static "):
                self.assertIsInstance(thing, staticmethod, path)
                thing = thing.__func__
            if len(path) == 2:
                self.assertEqual(thing.__module__, "borderflow." + path[0], path)
            told_parameters = "(" + str(inspect.Signature(parameters(thing)))[1:]
            self.assertEqual(path[-1] + told_parameters, entry.split(" ", 1)[1] if "static" in entry else entry)

    def test_operators(self):
        for path, _ in entries():
            if len(path) == 2 and isinstance(thing_at(path), type):
                listed = {f"__{name}__" for name in OPERATORS[path[1]].split()}
                free = {"__init__", "__iter__", "__bool__", "__module__", "__doc__", "__dict__", "__weakref__", "__hash__",
                        "__static_attributes__", "__firstlineno__"}
                found = {name for name in vars(thing_at(path)) if name.startswith("__")}
                self.assertEqual(found - free, listed, path)

    def test_constants(self):
        words = importlib.import_module("borderflow.words")
        walks = importlib.import_module("borderflow.walks")
        self.assertEqual((words.MOST, walks.FIRST, walks.END), (4096, -5, 5))
        self.assertEqual(list(errors.LIMITS.items()), [
            ("signs", 16), ("table", 4096), ("pairs", 4096), ("halves", 256), ("words", 4096), ("seam", 256), ("tracks", 64),
            ("deeds", 12), ("zones", 6), ("ticks", 12), ("sayings", 12), ("seen", 256),
        ])

    def test_each_entry_is_called(self):
        listed = {".".join(path[1:]) for path, entry in entries() if not entry.startswith("property ")}
        self.assertEqual(set(CALLS), listed - set(MANY))

    def test_calls_by_names(self):
        for name, made in CALLS.items():
            outcomes = []
            for way in ("position", "names", "turned"):
                call, *given = made()
                if isinstance(call, str):
                    call = getattr(importlib.import_module("borderflow." + call), name)
                named = given.pop() if given and isinstance(given[-1], dict) else {}
                names = [each.name for each in parameters(call) if each.kind is each.POSITIONAL_OR_KEYWORD]
                self.assertEqual(len(given), len(names), name)
                if way != "position":
                    named = {**dict(zip(names, given)), **named}
                    given = []
                if way == "turned":
                    named = dict(list(named.items())[::-1])
                owner = getattr(call, "__self__", None)
                try:
                    result = told(call(*given, **named))
                except ValueError as error:
                    result = repr((type(error), vars(error)))
                outcomes.append((result, told(owner)))
            self.assertEqual(outcomes[0], outcomes[1], name)
            self.assertEqual(outcomes[0], outcomes[2], name)

    def test_defaults_may_be_left_out(self):
        for name, made in CALLS.items():
            call, *given = made()
            if isinstance(call, str):
                call = getattr(importlib.import_module("borderflow." + call), name)
            found = parameters(call)
            if all(each.default is each.empty for each in found):
                continue
            values = dict(zip([each.name for each in found if each.kind is each.POSITIONAL_OR_KEYWORD], given))
            values.update(given[-1] if isinstance(given[-1], dict) else {})
            needed = {each.name: values[each.name] for each in found if each.default is each.empty}
            defaults = {each.name: each.default for each in found if each.default is not each.empty}
            again = made()[0]
            if isinstance(again, str):
                again = getattr(importlib.import_module("borderflow." + again), name)
            outcomes = []
            for function, passed in ((call, needed), (again, {**needed, **defaults})):
                try:
                    result = told(function(**passed))
                except ValueError as error:
                    result = repr((type(error), vars(error)))
                outcomes.append((result, told(getattr(function, "__self__", None))))
            self.assertEqual(outcomes[0], outcomes[1], name)

    def test_any_number_of_arguments(self):
        seen = Seen(machine=carry())
        self.fails(errors.InvalidSaying, (), seen.say, name="a", cell=0, tick=0)
        self.assertEqual(len(objects.Program(sizes=(2,))), 0)
        self.assertEqual(objects.Ground(first=3).parts(), [])
        self.assertEqual(deed_span(deed=("move", 0, 1), sizes=(2,)), (-1, -1))
        between = objects.between()
        self.fails(errors.InvalidSaying, (), between.say, name="a", cell=0, tick=0)
        self.fails(errors.InvalidSaying, (), between.say_crossing, name="a", seam=0, tick=0)


class Objects(Case):
    def test_beside_one_of_another_class(self):
        made = [maker() for maker in objects.MAKERS]
        others = [*made, None, True, 0, 1, "", "a", (), [], (1,), {}, object(), errors.NotBack(), carry().rule, 2]
        for one in made:
            for other in others:
                related = {type(one), type(other)} <= {Floor, Closed}
                if type(one) is not type(other) and not related:
                    self.assertIs(one == other, False, (one, other))
                    self.assertIs(one != other, True, (one, other))
                    self.assertIs(other == one, False)

    def test_what_lists_equality(self):
        for one, other in [(maker(), maker()) for maker in objects.MAKERS]:
            self.assertIs(one == one, True)
            self.assertIs(one == other, "eq" in OPERATORS[type(one).__name__].split(), one)
        self.assertTrue(Floor([wall(), same(2), wall()], widths=[3]) == objects.closed())
        self.assertTrue(objects.closed() == Floor([wall(), same(2), wall()], widths=[3]))
        self.assertFalse(objects.closed() == objects.floor())
        self.assertFalse(objects.floor() == objects.closed())

    def test_truth(self):
        for maker in objects.MAKERS:
            self.assertIs(bool(maker()), True, maker)
        empty = (
            Ratio(0), Row((0,)), same_rule(1), wall(), objects.Program((2,)), two(1), Floor([wall()]), Seen(wall()),
            Workshop(), objects.Exchange(two(), 0, 0, (0,)), objects.Seam(wall(), wall()), objects.Closed([wall()], [1]),
            objects.Crossing(wall(), (), ()), objects.Middle(wall(), (0,)), objects.Swaps(wall(), (0,), (0,)),
        )
        for thing in empty:
            self.assertIs(bool(thing), True, thing)

    def test_wrong_beside_an_operator(self):
        for one in (Ratio(1), same_rule(2), flip(), objects.program(), objects.exchange(), Seen(flip())):
            with self.assertRaises(TypeError):
                one + "1"
            with self.assertRaises(TypeError):
                one * None


if __name__ == "__main__":
    unittest.main()
