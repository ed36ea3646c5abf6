"""The document's words once more, as slow and as plain as can be: each second by itself, the base by going
through all events of the paper. The program is held against it."""


def replay(begun, events):
    standing = [list(row) for row in begun]
    for number, clock, kind, what, rank in events:
        if what == 0:
            standing.append([kind, number, rank, 0])
        elif what in (4, 5):
            standing = [row for row in standing if row[0] != kind]
        for row in standing:
            if row[0] == kind and what in (1, 2, 3):
                row[2] = rank
            if row[0] == kind and what in (2, 3):
                row[3] = what - 2
    return [tuple(row) for row in standing]


class PlainTable:
    def __init__(self):
        self.kinds = []
        self.links = set()
        self.clock = 0
        self.begun = []
        self.events = []
        self.turn = []
        self.silence = None
        self.first = None

    def has(self, k):
        return k in range(len(self.kinds))

    def before(self, a, b):
        later = [c for x, c in self.links if x == a]
        for c in later:
            later += [d for x, d in self.links if x == c and d not in later]
        return b in later

    def next_number(self):
        return len(self.begun) + len(self.events)

    def ended(self):
        return self.next_number() >= 2000

    def write(self, k, what, rank):
        self.events.append((self.next_number(), self.clock, k, what, rank))
        if what <= 2 and self.silence and rank >= self.silence[1]:
            self.silence = None
        if what in (4, 5) and not any(kind["up"] for kind in self.kinds):
            self.first = None

    def raise_it(self, k):
        rank = self.kinds[k]["rank"]
        self.kinds[k].update(held=0, up={"by": self.next_number(), "rank": rank, "ack": 0, "waited": 0})
        self.turn.append(k)
        self.write(k, 0, rank)
        if self.first is None:
            self.first = k

    def lower(self, k, what):
        rank = self.kinds[k]["up"]["rank"]
        self.kinds[k]["up"] = None
        self.turn.remove(k)
        self.write(k, what, rank)

    def change(self, k, what, **values):
        self.kinds[k]["up"].update(waited=0, **values)
        self.write(k, what, self.kinds[k]["up"]["rank"])

    def shelved(self, k):
        return self.clock < self.kinds[k]["shelf"]

    def sound(self):
        ranks = [kind["up"]["rank"] for kind in self.kinds if kind["up"] and not kind["up"]["ack"]]
        return 0 if self.silence or not ranks else 1 + max(ranks)

    def define(self, rank, latching, delay, escalate, again, stops):
        ranges = (4, 2, 3601, 3601, 3601, 65536)
        if any(x not in range(r) for x, r in zip((rank, latching, delay, escalate, again, stops), ranges)):
            return [-1]
        if len(self.kinds) == 32:
            return [-3]
        self.kinds.append(dict(rank=rank, latching=latching, delay=delay, escalate=escalate, again=again, stops=stops,
                               holds=0, held=0, shelf=0, up=None))
        return [len(self.kinds) - 1]

    def link(self, a, b):
        if not self.has(a) or not self.has(b):
            return [-1]
        if a == b or self.before(b, a):
            return [-4]
        new = (a, b) not in self.links
        self.links.add((a, b))
        return [int(new)]

    def unlink(self, a, b):
        if not self.has(a) or not self.has(b):
            return [-1]
        there = (a, b) in self.links
        self.links.discard((a, b))
        return [int(there)]

    def on(self, k):
        if not self.has(k):
            return [-1]
        return [-2] if self.ended() else [self.turn_on(k)]

    def turn_on(self, k):
        kind = self.kinds[k]
        if kind["holds"]:
            return 0
        kind["holds"] = 1
        if not kind["up"]:
            kind["held"] = 0
            if kind["delay"] == 0 and not self.shelved(k):
                self.raise_it(k)
                return 2
        elif kind["up"]["ack"]:
            self.change(k, 2, ack=0)
            return 2
        return 1

    def off(self, k):
        if not self.has(k):
            return [-1]
        return [-2] if self.ended() else [self.turn_off(k)]

    def turn_off(self, k):
        kind = self.kinds[k]
        if not kind["holds"]:
            return 0
        kind["holds"] = 0
        if not kind["up"]:
            kind["held"] = 0
        elif not kind["latching"]:
            self.lower(k, 4)
            return 2
        return 1

    def sense(self, m):
        if m < 0 or m > 2 ** len(self.kinds) - 1:
            return [-1]
        if self.ended():
            return [-2]
        begun = len(self.events)
        for k in range(len(self.kinds)):
            if m // 2 ** k % 2:
                self.turn_on(k)
            else:
                self.turn_off(k)
        return [len(self.events) - begun]

    def tick(self, n):
        if n not in range(1, 3601):
            return [-1]
        if self.ended():
            return [-2]
        if self.clock + n > 1000000000:
            return [-5]
        begun = len(self.events)
        for second in range(n):
            self.clock += 1
            self.end_silence()
            for k in range(len(self.kinds)):
                self.one_second(k)
        return [len(self.events) - begun]

    def end_silence(self):
        if self.silence and self.silence[0] <= self.clock:
            self.silence = None

    def one_second(self, k):
        kind = self.kinds[k]
        up = kind["up"]
        if not up and kind["holds"]:
            if kind["shelf"] < self.clock:
                kind["held"] += 1
            if not self.shelved(k) and kind["held"] >= kind["delay"]:
                self.raise_it(k)
        elif up and not up["ack"] and kind["escalate"] and up["rank"] < 3:
            up["waited"] += 1
            if up["waited"] >= kind["escalate"]:
                self.change(k, 1, rank=up["rank"] + 1)
        elif up and up["ack"] and kind["again"] and kind["holds"]:
            up["waited"] += 1
            if up["waited"] >= kind["again"]:
                self.change(k, 2, ack=0)

    def ack(self, k):
        if not self.has(k):
            return [-1]
        if self.ended():
            return [-2]
        if not self.kinds[k]["up"]:
            return [-6]
        if self.kinds[k]["up"]["ack"]:
            return [0]
        self.change(k, 3, ack=1)
        return [1]

    def ack_to(self, rank):
        if rank not in range(4):
            return [-1]
        if self.ended():
            return [-2]
        begun = len(self.events)
        for k, kind in enumerate(self.kinds):
            if kind["up"] and not kind["up"]["ack"] and kind["up"]["rank"] <= rank:
                self.change(k, 3, ack=1)
        return [len(self.events) - begun]

    def silence_it(self, n):
        if n not in range(1, 121):
            return [-1]
        if self.sound() == 0:
            return [-10]
        self.silence = (self.clock + n, self.sound() - 1)
        return [self.silence[1]]

    def reset_refusal(self, k):
        kind = self.kinds[k]
        if not kind["up"]:
            return -6
        if kind["holds"]:
            return -7
        if not kind["up"]["ack"]:
            return -8
        if any(self.kinds[a]["up"] and self.before(a, k) for a in range(len(self.kinds))):
            return -9
        return 0

    def reset(self, k):
        if not self.has(k):
            return [-1]
        if self.ended():
            return [-2]
        if self.reset_refusal(k):
            return [self.reset_refusal(k)]
        self.kinds[k]["held"] = 0
        self.lower(k, 5)
        return [1]

    def reset_all(self):
        if self.ended():
            return [-2]
        done = []
        while True:
            ready = [k for k in range(len(self.kinds)) if self.reset_refusal(k) == 0]
            if not ready:
                return [len(done)] + done
            self.kinds[ready[0]]["held"] = 0
            self.lower(ready[0], 5)
            done.append(ready[0])

    def shelve(self, k, n):
        if not self.has(k) or n not in range(1, 3601):
            return [-1]
        if self.kinds[k]["rank"] >= 2:
            return [-11]
        if self.kinds[k]["up"]:
            return [-12]
        self.kinds[k].update(shelf=self.clock + n, held=0)
        return [1]

    def unshelve(self, k):
        if not self.has(k):
            return [-1]
        if self.ended():
            return [-2]
        if not self.shelved(k):
            return [0]
        self.kinds[k]["shelf"] = self.clock
        if self.kinds[k]["holds"] and self.kinds[k]["delay"] == 0:
            self.raise_it(k)
            return [2]
        return [1]

    def set_clock(self, t):
        if t not in range(1000000001):
            return [-1]
        if t < self.clock:
            return [-13]
        if any(kind["holds"] or kind["up"] for kind in self.kinds):
            return [-14]
        self.clock = t
        self.end_silence()
        return [t]

    def renew(self):
        for number, k in enumerate(self.turn):
            self.kinds[k]["up"]["by"] = number
        ups = [self.kinds[k]["up"] for k in self.turn]
        self.begun = [(k, up["by"], up["rank"], up["ack"]) for k, up in zip(self.turn, ups)]
        self.events = []
        return [len(self.turn)]

    def tell_sound(self):
        return [self.sound()]

    def stops(self):
        bits = [any(self.kinds[k]["stops"] // 2 ** bit % 2 for k in self.turn) for bit in range(16)]
        return [sum(2 ** bit for bit in range(16) if bits[bit])]

    def shown(self):
        rows = []
        for ack in (0, 1):
            for rank in (3, 2, 1, 0):
                for k in self.turn:
                    if (self.kinds[k]["up"]["ack"], self.kinds[k]["up"]["rank"]) == (ack, rank):
                        rows += [k, rank, ack, self.kinds[k]["holds"]]
        return [len(self.turn)] + rows

    def kind(self, k):
        if not self.has(k):
            return [-1]
        kind = self.kinds[k]
        up = kind["up"]
        return [kind["rank"], kind["latching"], kind["delay"], kind["escalate"], kind["again"], kind["stops"],
                kind["holds"], kind["held"], kind["shelf"] - self.clock if self.shelved(k) else 0, int(bool(up)),
                *((up["rank"], up["ack"], up["waited"], up["by"]) if up else (0, 0, 0, 0))]

    def tally(self):
        ups = [self.kinds[k]["up"] for k in self.turn]
        return [sum(up["rank"] == rank for up in ups) for rank in range(4)] + [sum(not up["ack"] for up in ups)]

    def tell_first(self):
        return [0] if self.first is None else [1 + self.first]

    def tell_before(self, a, b):
        return [int(self.before(a, b))] if self.has(a) and self.has(b) else [-1]

    def all_before(self, k, among):
        rows = [a for a in sorted(among) if self.before(a, k)]
        return [len(rows)] + rows

    def behind(self, k):
        return self.all_before(k, range(len(self.kinds))) if self.has(k) else [-1]

    def order(self):
        left, done = sorted(self.turn), []
        while left:
            done.append(min(k for k in left if self.all_before(k, left) == [0]))
            left.remove(done[-1])
        return [len(done)] + done

    def why(self, k):
        if not self.has(k):
            return [-1]
        if k not in self.turn:
            return [-6]
        return [self.kinds[k]["holds"], 1 - self.kinds[k]["up"]["ack"]] + self.all_before(k, self.turn)

    def log(self, n):
        if n not in range(1000001):
            return [-1]
        rows = [event for event in self.events[-64:] if event[0] >= n]
        return [len(rows)] + [number for event in rows for number in event]

    def base(self):
        rows = replay(self.begun, self.events[:-64])
        return [len(rows)] + [number for row in rows for number in row]

    def time(self):
        left = (self.silence[0] - self.clock, self.silence[1]) if self.silence else (0, 0)
        return [self.clock, self.next_number(), *left]

    def answer(self, place, numbers):
        calls = (self.define, self.link, self.unlink, self.on, self.off, self.sense, self.tick, self.ack, self.ack_to,
                 self.silence_it, self.reset, self.reset_all, self.shelve, self.unshelve, self.set_clock, self.renew,
                 self.tell_sound, self.stops, self.shown, self.kind, self.tally, self.tell_first, self.tell_before,
                 self.behind, self.order, self.why, self.log, self.base, self.time)
        return calls[place](*numbers)
