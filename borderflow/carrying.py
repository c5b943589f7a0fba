"""Carried exchanges: what has to be done behind a tick to do what an exchange does ahead of it."""

from borderflow.basics import check_limit, power_of
from borderflow.errors import InvalidNumber, UnlikeGrounds
from borderflow.exchanges import made_exchange
from borderflow.grounds import Ground
from borderflow.rules import new_word
from borderflow.words import indexed_word, is_number, word_index, word_list

MOST_TICKS = 4


def carry(exchange, machine, *, ticks=1):
    """The exchange carried over some ticks of a machine, over ticks of its back below 0."""
    if exchange.ground != Ground.even(machine.signs):
        raise UnlikeGrounds()
    if not is_number(ticks, -MOST_TICKS, MOST_TICKS):
        raise InvalidNumber(ticks)
    carried = exchange
    for _ in range(abs(ticks)):
        if ticks > 0:
            carried = carried_once(carried, machine.rule, machine.back)
        else:
            carried = carried_once(carried, machine.back, machine.rule)
    return carried


def carried_once(exchange, rule, back):
    """The exchange carried over a tick of a rule with its back."""
    if exchange.is_empty():
        return exchange
    first, end = changeable_cells(exchange, rule)
    outer, outer_end = word_cells(exchange, rule, back)
    check_limit("words", power_of(rule.signs, outer_end - outer))
    table = []
    for word in word_list(outer_end - outer, rule.signs):
        new = exchanged_word(exchange, back, word, outer)
        # the rule and its back lead to the cells from this one on
        changed = new_word(rule, new)[first - outer + back.low + rule.low:]
        new_out = word[:first - outer] + changed[:end - first] + word[end - outer:]
        table.append(word_index(new_out, rule.signs))
    return made_exchange(exchange.ground, outer, outer_end, table)


def changeable_cells(exchange, rule):
    """The stretch of the out cells that the carried exchange can change."""
    return exchange.core[0] - rule.high, exchange.core[1] - rule.low


def counting_cells(exchange, rule):
    """The stretch of the in cells that count."""
    first, end = changeable_cells(exchange, rule)
    return min(exchange.start, first + rule.low), max(exchange.end, end + rule.high)


def word_cells(exchange, rule, back):
    """The stretch of the out cells from which the words of the carried exchange are taken."""
    first, end = changeable_cells(exchange, rule)
    inner, inner_end = counting_cells(exchange, rule)
    return min(first, inner + back.low), max(end, inner_end + back.high)


def exchanged_word(exchange, back, word, first):
    """The in word that leads to an out word from a cell on, behind the exchange."""
    old = new_word(back, word)
    start = exchange.start - first + back.low
    end = exchange.end - first + back.low
    new = exchange.table[word_index(old[start:end], back.signs)]
    return old[:start] + indexed_word(new, end - start, back.signs) + old[end:]
