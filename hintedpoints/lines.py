"""Lines of a desk: their first words, and the things that stand behind them."""

from hintedpoints.numbers import is_name, number_of
from hintedpoints.words import is_size

# What stands behind each first word; those of `font` and `program` end with rows.
THINGS = {
    "bare": ("name",), "short": ("name",), "undo": (), "show": (), "names": (), "letter": ("name", "size"),
    "touched": ("name", "size"), "cells": ("name", "size"), "picture": ("name", "size"), "store": ("size",),
    "worths": ("size",), "fault": ("size",), "turns": ("name", "size"), "crossing": ("name", "size"),
    "look": ("name",), "straight": ("name", "size"), "kept": (), "log": (),
}
# What stands for a line feed.
FEED = " / "


def in_one_line(text):
    """Tells a text in which a blank, a stroke and a blank stand in the place of each line feed."""
    return text.replace("\n", FEED)


def _rows_in(text):
    """Tells the text that ROWS stand for."""
    return text.replace(FEED, "\n")


def _of_font(behind):
    """Tells the things of `font`, None where they are none."""
    return None if behind == "" else [_rows_in(behind)]


def _of_program(behind):
    """Tells the things of `program`, None where they are none."""
    name, inner_blank, rows = behind.partition(" ")
    if not is_name(name) or (inner_blank != "" and rows == ""):
        return None
    return [name, _rows_in(rows)]


def _thing_of(kind, text):
    """Tells the name or the size that a text is, None where it is none."""
    if kind == "name":
        return text if is_name(text) else None
    number = number_of(text)
    return number if is_size(number) else None


def _of_others(word, texts):
    """Tells the things of a line of another first word, None where they are none."""
    kinds = THINGS.get(word)
    if kinds is None or len(kinds) != len(texts):
        return None
    things = [_thing_of(kind, text) for kind, text in zip(kinds, texts)]
    return None if None in things else things


def things_of(line):
    """Tells the first word of a line and a list of the things behind it, which is None where it is no line."""
    if not isinstance(line, str) or "\n" in line:
        return (None, None)
    word, blank, behind = line.partition(" ")
    if word == "font":
        return (word, _of_font(behind))
    if word == "program":
        return (word, _of_program(behind))
    return (word, _of_others(word, [] if blank == "" else behind.split(" ")))
