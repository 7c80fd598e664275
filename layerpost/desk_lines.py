"""The lines that a desk hears, word by word."""

from layerpost.cells import MOST_SIZE
from layerpost.checks import MOST_LETTER_SIGNS, WAYS
from layerpost.cursors import Cursor
from layerpost.errors import BadCommand, BadText
from layerpost.nets import MOST_LENGTH, MOST_TIMEOUT, MOST_TRAVEL
from layerpost.runs import MOST_TICK

FARTHEST = 10 ** 30


def hear_net(cursor):
    """`net N A .. / FRAME`"""
    size = cursor.take_number(1, MOST_SIZE)
    houses = [cursor.take_name()]
    while cursor.here() != "/":
        houses.append(cursor.take_name())
    cursor.take_word(["/"])
    return [size, houses, cursor.take_part("frame", None)]


def hear_link(cursor):
    """`link LINK A B N / ROUND / ROUND`"""
    name, one, other = cursor.take_name(), cursor.take_name(), cursor.take_name()
    travel = cursor.take_number(0, MOST_TRAVEL)
    cursor.take_word(["/"])
    there = cursor.take_part("round", "/")
    cursor.take_word(["/"])
    return [name, one, other, travel, there, cursor.take_part("round", None)]


def hear_part(cursor, kind):
    """`round A B ROUND`, and likewise a plan, a rule"""
    one, other = cursor.take_name(), cursor.take_name()
    return [one, other, cursor.take_part(kind, None)]


def hear_round(cursor):
    """`round A B ROUND`"""
    return hear_part(cursor, "round")


def hear_plan(cursor):
    """`plan A B PLAN`"""
    return hear_part(cursor, "plan")


def hear_rule(cursor):
    """`rule A B RULE`"""
    return hear_part(cursor, "rule")


def hear_flow(cursor):
    """`flow F A B N N`"""
    name, begin, end = cursor.take_name(), cursor.take_name(), cursor.take_name()
    most = cursor.take_number(0, MOST_LENGTH)
    return [name, begin, end, most, cursor.take_number(1, MOST_TIMEOUT)]


def hear_lay(cursor):
    """`lay F WAY A ..`"""
    flow, way = cursor.take_name(), cursor.take_word(WAYS)
    houses = [cursor.take_name(), cursor.take_name()]
    while cursor.here() != "":
        houses.append(cursor.take_name())
    return [flow, way, tuple(houses)]


def hear_place(cursor):
    """`place A B N`"""
    return [cursor.take_name(), cursor.take_name(), cursor.take_number(0, FARTHEST)]


def hear_line(cursor):
    """`line A B F N LOSSES`"""
    one, other, flow = cursor.take_name(), cursor.take_name(), cursor.take_name()
    phase = cursor.take_number(0, FARTHEST)
    return [one, other, flow, phase, cursor.take_signs(".x", FARTHEST)]


def hear_letter(cursor):
    """`letter F N LETTER`"""
    return [cursor.take_name(), cursor.take_number(0, MOST_TICK), cursor.take_signs("01", MOST_LETTER_SIGNS)]


def hear_fall(cursor):
    """`fall NAME at N`"""
    name = cursor.take_name()
    cursor.take_word(["at"])
    return [name, cursor.take_number(0, MOST_TICK)]


def hear_send(cursor):
    """`send F LETTER`"""
    return [cursor.take_name(), cursor.take_signs("01", MOST_LETTER_SIGNS)]


def hear_frame(cursor):
    """`frame LETTER`"""
    return [cursor.take_signs("01", MOST_LETTER_SIGNS)]


def hear_number(cursor):
    """`go N`, `cells N`"""
    return [cursor.take_number(0, FARTHEST)]


def hear_far(cursor):
    """`delay F WAY N`, `trip F WAY N`"""
    return [cursor.take_name(), cursor.take_word(WAYS), cursor.take_number(0, FARTHEST)]


def hear_worst(cursor):
    """`worst F N`"""
    return [cursor.take_name(), cursor.take_number(0, FARTHEST)]


def hear_name(cursor):
    """`less NAME`, and questions of a flow"""
    return [cursor.take_name()]


def hear_no(cursor):
    """Nothing behind the first word"""
    return []


READERS = {
    "net": hear_net, "link": hear_link, "round": hear_round, "plan": hear_plan, "rule": hear_rule,
    "flow": hear_flow, "less": hear_name, "lay": hear_lay, "place": hear_place, "line": hear_line,
    "letter": hear_letter, "fall": hear_fall, "stand": hear_no, "play": hear_no, "send": hear_send,
    "go": hear_number, "undo": hear_no, "show": hear_no, "run": hear_no, "frame": hear_frame,
    "cells": hear_number, "ways": hear_name, "delay": hear_far, "trip": hear_far, "worst": hear_worst,
    "sound": hear_name, "handed": hear_name, "delays": hear_name, "way": hear_name, "clock": hear_no,
}


def read_line(text):
    """The pair of the first word of a line, and the list of what the other ones tell."""
    try:
        cursor = Cursor(text, 0)
        word = cursor.take_word(list(READERS))
        reader = READERS[word]
        values = reader(cursor)
        cursor.end_line()
    except BadText as error:
        raise BadCommand(error.word)
    return word, values
