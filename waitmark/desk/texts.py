"""Rules, streams, comers and rows as they are written, and what is read: just what is so written."""

from waitmark.base.comers import MOST_STREAMS, are_comers, check_comers
from waitmark.errors import NoText
from waitmark.lanes.lanes import are_streams, check_streams
from waitmark.lanes.rules import check_rule, is_rule

FIGURES = "0123456789"
MOST_FIGURES = 40
NOTHING = "-"
MAY_BE_MARKED = "m"
# How many numbers stand behind the word of a rule.
NUMBERS = {"none": 0, "late": 2, "share": 4}


def rule_text(rule):
    """How a rule is written."""
    check_rule(rule)
    return numbers_text(rule)


def streams_text(streams):
    """How streams are written."""
    check_streams(streams)
    return " / ".join([f"{weight} {limit} {numbers_text(rule)}" for weight, rule, limit in streams])


def comers_text(comers):
    """How comers are written."""
    check_comers(MOST_STREAMS, comers)
    if len(comers) == 0:
        return NOTHING
    return " ".join([_comer_text(comer) for comer in comers])


def rows_text(rows):
    """How rows are written."""
    if len(rows) == 0:
        return NOTHING
    return ", ".join([numbers_text(row) for row in rows])


def read_rule(text):
    """The rule that is so written."""
    _check_text(text)
    rule = _form_rule(text)
    if not is_rule(rule):
        raise NoText("no rule has such numbers")
    return rule


def read_streams(text):
    """The streams that are so written."""
    _check_text(text)
    streams = tuple([_form_stream(part) for part in text.split(" / ")])
    if not are_streams(streams):
        raise NoText("no streams are so many, or have such numbers")
    return streams


def read_comers(text):
    """The comers that are so written."""
    _check_text(text)
    comers = () if text == NOTHING else tuple([_form_comer(part) for part in text.split(" ")])
    if not are_comers(MOST_STREAMS, comers):
        raise NoText("no comers are so many, or have such numbers")
    return comers


def numbers_text(parts):
    """Numbers, and the words among them, with blanks between."""
    return " ".join([str(part) for part in parts])


def form_number(text):
    """The number of these figures, however great."""
    if not 1 <= len(text) <= MOST_FIGURES or not all([sign in FIGURES for sign in text]):
        raise NoText(f"not 1 to {MOST_FIGURES} figures")
    if text.startswith("0") and text != "0":
        raise NoText("a nought ahead of other figures")
    return int(text)


def form_marked(text):
    """The number of these figures, and whether the sign of what may be marked is behind it."""
    return form_number(text.removesuffix(MAY_BE_MARKED)), text.endswith(MAY_BE_MARKED)


def _form_rule(text):
    """What has the form of a rule, its numbers however great."""
    word, *numbers = text.split(" ")
    if word not in NUMBERS or len(numbers) != NUMBERS[word]:
        raise NoText("not written as a rule is")
    return (word, *[form_number(number) for number in numbers])


def _form_stream(text):
    weight, _, behind = text.partition(" ")
    limit, _, rule = behind.partition(" ")
    return (form_number(weight), _form_rule(rule), form_number(limit))


def _form_comer(text):
    stream, _, behind = text.partition(":")
    size, can = form_marked(behind)
    return (form_number(stream), size, can)


def _comer_text(comer):
    stream, size, can = comer
    ending = MAY_BE_MARKED if can else ""
    return f"{stream}:{size}{ending}"


def _check_text(text):
    if not isinstance(text, str):
        raise NoText("no text")
