"""What the lines of a desk ask: each tells a string of a Board, and of the values of the line."""

from layerpost.bounds import cells_growth, greatest_delay, round_trip, sound, way_growth
from layerpost.checks import WAYS
from layerpost.tables import Leads, Ring, leads
from layerpost.texts import net_text, run_text, sign_word


def in_one_line(page):
    """A page, its lines with signs between."""
    return " ; ".join(page.split("\n"))


def ask_show(board, values):
    """The page of the net."""
    return in_one_line(net_text(board.net))


def ask_run(board, values):
    """The page of the run."""
    return in_one_line(run_text(board.run))


def ask_frame(board, values):
    """The frame of a letter."""
    return board.net.rule.frame(values[0])


def ask_cells(board, values):
    """The most cells of a letter."""
    growth = cells_growth(board.net)
    return str(growth(values[0]))


def way_word(answer):
    """Where tables lead, as it is told."""
    if isinstance(answer, Leads):
        return " ".join(answer.houses)
    return "ring" if isinstance(answer, Ring) else "stops"


def ask_ways(board, values):
    """The houses of both ways."""
    return " , ".join([way_word(leads(board.tables, values[0], way)) for way in WAYS])


def ask_delay(board, values):
    """The greatest delay of a way."""
    flow, way, length = values
    growth = way_growth(board.tables, flow, way)
    return str(growth(length))


def ask_trip(board, values):
    """The greatest round trip of a way."""
    flow, way, length = values
    growth = round_trip(board.tables, flow, way)
    return str(growth(length))


def ask_worst(board, values):
    """The greatest delay with a fall."""
    flow, length = values
    return str(greatest_delay(board.tables, flow, length, 1))


def ask_sound(board, values):
    """Whether a flow is sound, and its greatest round trip."""
    answer = sound(board.tables, values[0])
    return f"sound {answer.trip}" if answer else f"alarm {answer.trip}"


def words_or_none(words):
    """Words with single spaces between, the word for nothing without any."""
    return " ".join(words) if words else "none"


def ask_handed(board, values):
    """What was handed out."""
    return words_or_none([sign_word(content) for content in board.play.handed(values[0])])


def ask_delays(board, values):
    """The delays of what was handed out."""
    return words_or_none([str(ticks) for ticks in board.play.ticks_of(values[0])])


def ask_way(board, values):
    """The way of a flow."""
    return board.play.way_of(values[0])


def ask_clock(board, values):
    """How many ticks have gone by."""
    return str(board.play.clock)


QUESTIONS = {
    "show": ask_show, "run": ask_run, "frame": ask_frame, "cells": ask_cells, "ways": ask_ways, "delay": ask_delay,
    "trip": ask_trip, "worst": ask_worst, "sound": ask_sound, "handed": ask_handed, "delays": ask_delays,
    "way": ask_way, "clock": ask_clock,
}


def answer_of(board, word, values):
    """The answer to a question."""
    question = QUESTIONS[word]
    return question(board, values)
