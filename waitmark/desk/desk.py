"""A desk: a line is led by rows that are said to it, and each is answered by a text."""

from waitmark.base.plain import check_rate
from waitmark.desk.texts import form_marked, form_number, numbers_text, read_comers, read_streams, rows_text
from waitmark.errors import NoLine, NoText
from waitmark.line.line import Line
from waitmark.senders.rings import ring_of
from waitmark.small.letin import longest

DONE = "ok"
NO_BOUND = "none"


class Desk:
    """A line, once there is one, and a log of the rows that were said."""

    def __init__(self):
        self._streams = ()
        self._rate = 0
        self._line = None
        self._log = []

    def say(self, row):
        """Say a row; told is its answer."""
        # Both ends are logged ahead of the answer, as a refused row has both too.
        text = row if isinstance(row, str) else ""
        self._log.extend([("in", text), ("out", text)])
        return self._answer(row)

    def many(self, rows):
        """Say rows one behind another, up to the first that is refused; told are their answers."""
        if not isinstance(rows, tuple):
            raise NoText("no tuple of rows")
        return tuple([self.say(row) for row in rows])

    def log(self):
        """("in", row) and ("out", row) of each row that was said, "" for what is no text."""
        return tuple(self._log)

    def line(self):
        """A new Line of the same streams, rate and standing, or None."""
        if self._line is None:
            return None
        return Line(self._streams, rate=self._rate, standing=self._line.standing())

    def _answer(self, row):
        if not isinstance(row, str):
            raise NoText("no text")
        if row == "wait":
            return numbers_text(self._here().waiting())
        if row == "back":
            self._here().back()
            return DONE
        word, _, behind = row.partition(" ")
        if word == "line":
            return self._begin(behind)
        if word == "step":
            comers = read_comers(behind)
            return rows_text(self._here().step(comers))
        if word == "longest":
            return self._longest(behind)
        if word == "ring":
            return _ring(behind)
        raise NoText("no row of a desk")

    def _here(self):
        if self._line is None:
            raise NoLine("there is no line yet")
        return self._line

    def _begin(self, text):
        """A new line is there; one that is refused leaves the elder one."""
        rate, streams = _read_line(text)
        self._line = Line(streams, rate=rate)
        self._streams = streams
        self._rate = rate
        return DONE

    def _longest(self, text):
        numbers = [form_number(part) for part in text.split(" ")]
        if len(numbers) != 3:
            raise NoText("not a stream, a depth and a gain")
        self._here()
        stream, depth, gain = numbers
        told = longest(self._streams, stream, self._rate, (depth, gain))
        return NO_BOUND if told is None else numbers_text(told)


def _ring(text):
    parts = text.split(" ; ")
    if len(parts) != 2:
        raise NoText("not a line and its senders")
    rate, streams = _read_line(parts[0])
    senders = tuple([_form_sender(part) for part in parts[1].split(" / ")])
    # A rate that is none is refused as such, ahead of the world that it makes none.
    check_rate(rate)
    return numbers_text(ring_of((streams, rate, senders)))


def _read_line(text):
    """A number, whether it is a rate or not, and streams."""
    rate, _, streams = text.partition(" ")
    return form_number(rate), read_streams(streams)


def _form_sender(text):
    """What has the form of a sender, its numbers however great."""
    parts = text.split(" ")
    if len(parts) != 3:
        raise NoText("not written as a sender is")
    most, can = form_marked(parts[2])
    return (form_number(parts[0]), can, form_number(parts[1]), most)
