"""What the tests share: things of all kinds, things spoilt part by part, and how a call is held to its word."""

import copy
import unittest

from waitmark import errors
from waitmark.lanes.lanes import is_lane

FORTY = 10 ** 40 - 1

WHOLE = (0, 1, -1, 2, 3, 5, 7, 8, 9, 10, 64, 99, 100, 999, 1000, 1001, 9999, 10000, 10 ** 6, 10 ** 6 + 1, FORTY, -FORTY)


def deep(kind, depth):
    """A thing of so many tuples or lists within one another."""
    thing = kind()
    for _ in range(depth - 1):
        thing = kind([thing])
    return thing


def things():
    """Things of all kinds, made anew."""
    return list(WHOLE) + [
        True, False, None, "", "late", "share", "none", "0", "5", "9", "\u00e9" * 50,
        (), (()), ((),), ((), ()), (None,), (True,), (0,), (1, 2), (0, 1, True), ((0, 1, True),), (((0, 1, True),),),
        [], [[]], [()], ([],), (None, None, 0), [None, None, 0], (0, 0, 0, 0), [0, 0, 0, 0], (0, 0, 0), (0,) * 5,
        ("late",), ("late", 5), ("late", 5, 40), ["late", 5, 40], ("late", 5, 40, 1), ("late", True, 40),
        ("share",), ("share", 5, 4, 2, 1), ["share", 5, 4, 2, 1], ("share", 5, 4, 2), ("share", 5, 4, 2, 1, 0),
        ("none",), ["none"], ("none", 0), ("none", ()), (("none",),), ("None",), ("n", "o", "n", "e"),
        {}, {"late": 5}, {0: 1, 1: 2, 2: True}, {0: {}}, [{}], ({},), {"none": ()}, ({}, {}, {}), ([], [], []),
        ({"late": 1}, 5, 40), (["late"], 5, 40), (["share"], 5, 4, 2, 1), (("none",), ("none",)),
        (FORTY, FORTY, FORTY), (-FORTY, None, True), ("0", "1", "True"), "(0, 1, True)", (0, "1", True),
        deep(tuple, 8), deep(list, 8), (deep(tuple, 7), deep(list, 7), True), [deep(list, 7)] * 3, (None,) * 400,
    ]


def spoilt(thing):
    """The tuple with each part otherwise, a part more, a part less, and as what is no tuple."""
    for at, part in enumerate(thing):
        for other in (None, "", "x", (), [], {}, (part,), [part], str(part), -1, -FORTY, FORTY, 10 ** 6 + 1):
            if repr(other) != repr(part):
                yield thing[:at] + (other,) + thing[at + 1:]
        if not isinstance(part, bool):
            yield thing[:at] + (True,) + thing[at + 1:]
            yield thing[:at] + (False,) + thing[at + 1:]
        else:
            yield thing[:at] + (int(part),) + thing[at + 1:]
        yield thing[:at] + thing[at + 1:]
    for more in (None, 0, 1, True, thing):
        yield thing + (more,)
        yield (more,) + thing
    yield list(thing)
    yield dict(enumerate(thing))
    yield repr(thing)
    yield (thing,)


def spoilt_deep(thing):
    """The tuple spoilt at any depth."""
    yield from spoilt(thing)
    for at, part in enumerate(thing):
        if isinstance(part, tuple):
            for bad in spoilt_deep(part):
                yield thing[:at] + (bad,) + thing[at + 1:]


def is_whole(thing):
    return type(thing) is int


def within(thing, low, high):
    return type(thing) is int and low <= thing <= high


class Case(unittest.TestCase):
    """A test case that holds each call to what is promised of all calls."""

    def ask(self, function, *args, **named):
        """What the function tells; asked again it is the same, and what was handed in stays as it was."""
        before = repr((args, named))
        handed, by_name = copy.deepcopy(args), copy.deepcopy(named)
        told = function(*args, **named)
        self.assertEqual(repr((args, named)), before)
        self.assertEqual(repr(function(*args, **named)), repr(told))
        self.assertEqual(repr(function(*handed, **by_name)), repr(told))
        return told

    def same(self, told, due):
        """Equal, kinds and all: True is not 1, a list is no tuple."""
        self.assertEqual(repr(told), repr(due))

    def tells(self, due, function, *args, **named):
        self.same(self.ask(function, *args, **named), due)

    def refuses(self, kind, function, *args, **named):
        """Just this class of refusal, twice, and what was handed in stays as it was."""
        before = repr((args, named))
        for _ in range(2):
            with self.assertRaises(errors.LineError) as caught:
                function(*args, **named)
            self.assertIs(type(caught.exception), kind, (args, named))
        self.assertEqual(repr((args, named)), before)
        return caught.exception

    def refuses_run(self, function, *args, **named):
        refused = self.refuses(errors.NoRun, function, *args, **named)
        self.same(refused.number, 0)


LIMITS = (1, 2, 3, 9, 98, 99)
MOST_WAIT = 10 ** 6


def some_rule(chance, kind=None):
    """A rule of this kind, or of any."""
    kind = kind or chance.choice(("none", "late", "share"))
    if kind == "late":
        return ("late", chance.choice((1, 2, 3, 5, 99)), chance.choice((1, 2, 3, 5, 40, 99)))
    if kind == "share":
        factors = (0, 1, 7, 40, 300, 999)
        return ("share", chance.choice((1, 2, 5, 99)), chance.choice((1, 2, 3, 99)), chance.choice(factors),
                chance.choice(factors))
    return ("none",)


def some_streams(chance, many=None, kind=None):
    many = many or chance.randint(1, 8)
    return tuple((chance.randint(1, 9), some_rule(chance, kind), chance.choice(LIMITS)) for _ in range(many))


def some_comers(chance, many, most=8):
    return tuple((chance.randrange(many), chance.randint(1, 9), chance.random() < 0.5)
                 for _ in range(chance.randint(0, most)))


def some_run(chance, many, ticks, most=8):
    return tuple(some_comers(chance, many, most) for _ in range(ticks))


def some_memory(chance, rule):
    """A memory of the rule, its numbers at bounds now and then."""
    if rule[0] == "late":
        span = rule[2]
        count = chance.choice((0, 1, chance.randint(0, span * span), span * span))
        age = chance.choice((None, 0, chance.randint(0, span), span, span))
        left = chance.choice((None, 0, 0, 1, chance.randint(0, span), span)) if age == span else None
        return (age, left, count)
    if rule[0] == "share":
        return (chance.choice((0, 0, chance.randrange(rule[2]), rule[2] - 1)),
                chance.choice((0, 1, chance.randint(0, 1000), 500, 999, 1000)),
                chance.choice((0, chance.randint(0, 99), 99)), chance.choice((0, chance.randint(0, 999), 999)))
    return ()


def some_piece(chance, wait):
    can = chance.random() < 0.5
    return (chance.randint(1, 9), can, can and chance.random() < 0.3, wait)


def some_lane(chance, stream, most_credit=None, many=None):
    """A lane of the stream that fits, not only one that a line comes to."""
    weight, rule, limit = stream
    if many is None:
        many = min(limit, chance.choice((0, 0, 1, 1, 2, 3, 5, limit)))
    if many == 0:
        return (0, (), some_memory(chance, rule))
    most = chance.choice((0, 3, 9, 120, MOST_WAIT))
    waits = sorted([chance.choice((chance.randint(0, most), most)) for _ in range(many)], reverse=True)
    bound = 9 * weight + 8 if most_credit is None else most_credit
    credit = chance.choice((0, chance.randint(0, bound), bound))
    return (credit, tuple(some_piece(chance, wait) for wait in waits), some_memory(chance, rule))


def some_standing(chance, streams):
    """A standing of the streams that fits, not only one that a line comes to."""
    lanes = [some_lane(chance, stream, most_credit=8) for stream in streams]
    ring = [number for number, lane in enumerate(lanes) if lane[1]]
    chance.shuffle(ring)
    if not ring:
        return (0, False, (), tuple(lanes))
    begun = chance.random() < 0.5
    if begun:
        first = ring[0]
        lanes[first] = some_lane(chance, streams[first], many=len(lanes[first][1]))
    return (chance.choice((0, chance.randint(0, 8), 8)), begun, tuple(ring), tuple(lanes))


def model_look(rule, memory, wait, alone):
    """A head is looked at: the memory behind it, and whether it is struck."""
    if rule[0] != "late":
        return memory, False
    _, mark, span = rule
    age, left, count = memory
    if wait < mark or alone:
        return (None, None, count), False
    if age is None:
        return (0, None, count), False
    if age == span and (left is None or left == 0):
        count = count // 2 + 1 if left is None else min(count + 1, span * span)
        return (age, max(side for side in range(span + 1) if side * side <= span * span // count), count), True
    return memory, False


def model_pass(rule, memory):
    if rule[0] == "late":
        age, left, count = memory
        return (None if age is None else min(rule[2], age + 1), left and left - 1, count)
    if rule[0] == "share":
        return ((memory[0] + rule[2] - 1) % rule[2],) + memory[1:]
    return memory


class Model:
    """The line once more: lanes that are changed in place, and notes of what struck."""

    def __init__(self, streams, standing=None):
        self.streams = streams
        if standing is None:
            firsts = {"late": (None, None, 0), "share": (0, 0, 0, 0), "none": ()}
            standing = (0, False, (), tuple((0, (), firsts[stream[1][0]]) for stream in streams))
        self.budget, self.begun = standing[0], standing[1]
        self.ring = list(standing[2])
        self.credits = [lane[0] for lane in standing[3]]
        self.queues = [[list(piece) for piece in lane[1]] for lane in standing[3]]
        self.memories = [lane[2] for lane in standing[3]]
        self.tick = 0
        self.rows = []
        self.since = {}
        self.reasons = {}

    def standing(self):
        lanes = [(credit, tuple(tuple(piece) for piece in queue), memory)
                 for credit, queue, memory in zip(self.credits, self.queues, self.memories)]
        return (self.budget, self.begun, tuple(self.ring), tuple(lanes))

    def step(self, rate, comers):
        """A whole tick; told are its rows."""
        self.rows = []
        for number in range(len(self.streams)):
            self.renew(number)
        for number, size, can in comers:
            self.come(number, size, can)
        self.serve(rate)
        for number in range(len(self.streams)):
            self.memories[number] = model_pass(self.streams[number][1], self.memories[number])
            for piece in self.queues[number]:
                piece[3] = min(piece[3] + 1, MOST_WAIT)
        self.tick += 1
        return tuple(self.rows)

    def renew(self, number):
        rule = self.streams[number][1]
        if rule[0] == "share" and self.memories[number][0] == 0:
            _, mark, _, up, turn = rule
            _, share, old, total = self.memories[number]
            wait = min(99, self.queues[number][0][3]) if self.queues[number] else 0
            share += up * (wait - mark) + turn * (wait - old)
            self.memories[number] = (0, sorted((0, share, 1000))[1], wait, total)

    def come(self, number, size, can):
        _, rule, limit = self.streams[number]
        queue = self.queues[number]
        if len(queue) >= limit:
            return self.rows.append(("full", number, size, 0))
        struck = False
        if rule[0] == "share":
            phase, share, old, total = self.memories[number]
            struck = total + share > 999
            if struck:
                self.reasons[(self.tick, len(self.rows))] = (number, ("share", share, total))
            self.memories[number] = (phase, share, old, total + share - 1000 * struck)
        if struck and not can:
            return self.rows.append(("drop", number, size, 0))
        queue.append([size, can, struck, 0])
        if len(queue) == 1:
            self.ring.append(number)
        return self.rows.append(("mark" if struck else "come", number, size, 0))

    def serve(self, rate):
        self.budget = self.budget + rate if self.ring else 0
        while self.ring:
            number = self.ring[0]
            if not self.begun:
                self.begun = True
                self.credits[number] += 9 * self.streams[number][0]
            size = self.queues[number][0][0]
            if size > self.credits[number]:
                self.ring.append(self.ring.pop(0))
                self.begun = False
            elif size > self.budget:
                return
            else:
                self.out(number)
        self.budget = 0

    def out(self, number):
        rule = self.streams[number][1]
        queue = self.queues[number]
        size, can, marked, wait = queue[0]
        memory, struck = model_look(rule, self.memories[number], wait, len(queue) == 1)
        self.memories[number] = memory
        if rule[0] == "late" and memory[0] == 0:
            self.since[number] = self.tick
        if struck:
            self.reasons[(self.tick, len(self.rows))] = (number, ("late", self.since.get(number), memory[2]))
        word = "bell" if marked or (struck and can) else "drop" if struck else "send"
        self.rows.append((word, number, size, wait))
        queue.pop(0)
        if word != "drop":
            self.credits[number] -= size
            self.budget -= size
        if not queue:
            self.credits[number] = 0
            self.ring.remove(number)
            self.begun = False


MOST_SENT = 16
FRESH_SENDER = (1, 0, 0, ())


def some_world(chance, many=None, kind=None, most=None):
    """A world of one to four streams, its numbers at bounds now and then."""
    many = many or chance.randint(1, 4)
    senders = tuple((chance.randint(1, 9), chance.random() < 0.5, chance.choice((1, 2, 3, chance.randint(1, 20), 20)),
                     most or chance.choice((1, 2, 5, chance.randint(1, MOST_SENT), MOST_SENT))) for _ in range(many))
    return (some_streams(chance, many, kind), chance.choice((1, 5, 9, 20, chance.randint(1, 99), 99)), senders)


def some_echoes(chance, delay, many):
    """So many echoes, now and then all of them due in one tick."""
    last = chance.choice((0, delay - 1))
    lefts = sorted([chance.randint(0, last) for _ in range(many)])
    words = chance.choice((("ok",), ("hit",), ("ok", "hit"), ("ok", "ok", "ok", "hit")))
    return tuple((left, chance.choice(words)) for left in lefts)


def some_state(chance, world):
    """A state of the world that fits, not only one that it comes to."""
    streams, _, senders = world
    few = tuple((weight, rule, min(limit, sender[3])) for (weight, rule, limit), sender in zip(streams, senders))
    budget, begun, ring, lanes = some_standing(chance, few)
    own = []
    states = []
    for (credit, pieces, memory), (size, can, delay, most) in zip(lanes, senders):
        own.append((credit, tuple((size, can, can and piece[2], piece[3]) for piece in pieces), memory))
        window = chance.choice((1, chance.randint(1, most), most))
        grown = chance.choice((0, chance.randrange(window), window - 1))
        shut = chance.choice((0, 0, chance.randint(0, most), most))
        free = most - len(pieces)
        states.append((window, grown, shut, some_echoes(chance, delay, chance.choice((0, chance.randint(0, free), free)))))
    return ((budget, begun, ring, tuple(own)), tuple(states))


class ModelWorld:
    """A world once more: the line's model, and what each sender keeps, changed in place."""

    def __init__(self, world, state=None):
        self.streams, rate, self.senders = world
        self.rate = rate
        standing, states = state or (None, (FRESH_SENDER,) * len(self.senders))
        self.line = Model(self.streams, standing)
        self.kept = [{"window": window, "grown": grown, "shut": shut, "echoes": list(echoes)}
                     for window, grown, shut, echoes in states]

    def state(self):
        return (self.line.standing(), tuple((own["window"], own["grown"], own["shut"], tuple(own["echoes"]))
                                            for own in self.kept))

    def out(self, number):
        return len(self.line.queues[number]) + len(self.kept[number]["echoes"])

    def hear(self, number):
        """The first of its echoes."""
        own, most = self.kept[number], self.senders[number][3]
        _, word = own["echoes"].pop(0)
        if own["shut"]:
            own["shut"] -= 1
        elif word == "ok":
            own["grown"] += 1
            if own["grown"] == own["window"]:
                own["grown"] = 0
                own["window"] += own["window"] < most
        else:
            own["grown"] = 0
            own["window"] = own["window"] // 2 or 1
            own["shut"] = self.out(number)

    def tick(self):
        """A whole tick; told are its comers and its rows."""
        comers = []
        for number, (size, can, _, _) in enumerate(self.senders):
            own = self.kept[number]
            while own["echoes"] and own["echoes"][0][0] == 0:
                self.hear(number)
            for _ in range(self.out(number), own["window"]):
                comers.append((number, size, can))
        rows = self.line.step(self.rate, comers)
        brings = {"send": "ok", "bell": "hit", "full": "hit", "drop": "hit"}
        for word, number, _, _ in rows:
            if word in brings:
                self.kept[number]["echoes"].append((self.senders[number][2], brings[word]))
        for own in self.kept:
            own["echoes"] = [(left - 1, word) for left, word in own["echoes"]]
        return tuple(comers), rows


class ModelRing:
    """What comes again of a world, tick by tick: lead and ring, None where they are too long, and all rows."""

    def __init__(self, world, most=400):
        model = ModelWorld(world)
        self.states = [repr(model.state())]
        self.rows = []
        self.told = None
        seen = set(self.states)
        while self.told is None and len(self.rows) < most:
            self.rows.append(model.tick()[1])
            state = repr(model.state())
            if state in seen:
                lead = self.states.index(state)
                self.told = (lead, len(self.states) - lead)
            seen.add(state)
            self.states.append(state)

    def waits(self):
        """The longest wait sent in each tick, -1 of none."""
        return [max([row[3] for row in rows if row[0] in ("send", "bell")], default=-1) for rows in self.rows]

    def falls(self, mark):
        lead, ring = self.told
        late = [wait >= mark for wait in self.waits()]
        if any(late[lead:]):
            return ("never", lead + late[lead:].index(True))
        return ("falls", max([tick + 1 for tick in range(lead) if late[tick]], default=0))

    def units(self, many):
        lead, _ = self.told
        return tuple(sum(size for rows in self.rows[lead:] for word, number, size, _ in rows
                         if number == stream and word in ("send", "bell")) for stream in range(many))


def model_small(rule, limit, lane, many):
    """A tick of a small lane once more: the lane, the words, and the wait of what is sent, None of nothing."""
    waits, memory = [piece[3] for piece in lane[1]], lane[2]
    if rule[0] == "share" and memory[0] == 0:
        _, share, old, total = memory
        wait = min(99, waits[0]) if waits else 0
        share += rule[3] * (wait - rule[1]) + rule[4] * (wait - old)
        memory = (0, sorted((0, share, 1000))[1], wait, total)
    words = []
    for _ in range(many):
        word = "full" if len(waits) == limit else "come"
        if word == "come" and rule[0] == "share":
            over, left = divmod(memory[3] + memory[1], 1000)
            memory = memory[:3] + (left,)
            word = "drop" if over else "come"
        if word == "come":
            waits.append(0)
        words.append(word)
    sent = None
    while waits and sent is None:
        memory, struck = model_look(rule, memory, waits[0], len(waits) == 1)
        wait = waits.pop(0)
        words.append("drop" if struck else "send")
        if not struck:
            sent = wait
    pieces = tuple((1, False, False, min(wait + 1, MOST_WAIT)) for wait in waits)
    return (0, pieces, model_pass(rule, memory)), tuple(words), sent


def lane_of(*waits, memory=()):
    """The small lane in which pieces wait so long."""
    return (0, tuple((1, False, False, wait) for wait in waits), memory)


def fits_small(rule, limit, thing):
    """What a small lane is, put down once more for the tests."""
    if not is_lane((1, rule, limit), thing):
        return False
    return thing[0] == 0 and all(piece[:3] == (1, False, False) for piece in thing[1])


def small_first(rule):
    """The small lane ahead of all runs."""
    return (0, (), {"late": (None, None, 0), "share": (0, 0, 0, 0), "none": ()}[rule[0]])


def model_search(first, do, most, stop=None):
    """All rows in the order in which runs come to them, the least run to each, and the first run that stops it.

    do(row, count) tells the row behind and what the tick shows; stop(shown) whether it stops there. None is told in
    place of all where more than 1500 rows come ahead.
    """
    runs = {first: ()}
    level = [((), first)]
    while level:
        behind = []
        for run, row in sorted(level):
            for count in range(most + 1):
                after, shown = do(row, count)
                if stop is not None and stop(shown):
                    return list(runs), runs, run + (count,)
                if after not in runs:
                    runs[after] = run + (count,)
                    behind.append((runs[after], after))
                    if len(runs) > 1500:
                        return None
        level = behind
    return list(runs), runs, None


def some_small_rule(chance, kind=None):
    """A rule that does something in small lanes."""
    kind = kind or chance.choice(("none", "late", "share"))
    if kind == "late":
        return ("late", chance.randint(1, 4), chance.choice((1, 2, 3, 5, 9)))
    if kind == "share":
        factors = (0, 50, 100, 200, 250, 300, 500, 999)
        return ("share", chance.randint(1, 3), chance.choice((1, 2, 3)), chance.choice(factors), chance.choice(factors))
    return ("none",)


def some_small_lane(chance, rule, limit):
    """A small lane that fits, not only one that runs come to."""
    credit, pieces, memory = some_lane(chance, (1, rule, limit))
    return (0, tuple((1, False, False, piece[3]) for piece in pieces), memory)
