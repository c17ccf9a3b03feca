"""Many made-up lists of calls, answered by the program and by a second, slow model of the document's words."""

import math
import random
import unittest
from fractions import Fraction

from helper import BIG, EXPECTED_KINDS, block, folded, run, table, worth


class CodeError(Exception):
    pass


def cut(code):
    found = []
    rest = list(code)
    while rest:
        size = {0: 3, 8: 3, 9: 1}.get(rest[0], 2)
        found.append(rest[:size])
        rest = rest[size:]
    return found


def checked(x):
    if abs(x.numerator) > BIG or x.denominator > BIG:
        raise CodeError(1)
    return x


def two(o, a, b):
    if o in (3, 4, 5) and b == 0:
        raise CodeError(2)
    if o == 6:
        if b.denominator != 1 or not -64 <= b <= 64:
            raise CodeError(3)
        if a == 0 and b < 0:
            raise CodeError(2)
        return checked(Fraction(a) ** int(b))
    if o < 6:
        return checked((
            lambda: a + b, lambda: a - b, lambda: a * b, lambda: a / b, lambda: Fraction(math.floor(a / b)),
            lambda: a - b * math.floor(a / b),
        )[o]())
    return Fraction((a == b, a != b, a < b, a <= b, a > b, a >= b)[o - 7])


def one(o, a):
    return Fraction((
        -a, a == 0, math.floor(a), math.ceil(a), abs(a), (a > 0) - (a < 0), a.numerator, a.denominator,
    )[o])


def at_table(told, a):
    kind, xs, ys = told
    if kind == 2:
        if a.denominator != 1 or not 1 <= a <= len(ys):
            raise CodeError(3)
        return ys[int(a) - 1]
    if a > xs[-1]:
        return ys[-1]
    k = min(j for j in range(len(xs)) if xs[j] >= a)
    if kind == 0 or k == 0:
        return ys[k]
    return checked(ys[k - 1] + (ys[k] - ys[k - 1]) * (a - xs[k - 1]) / (xs[k] - xs[k - 1]))


def apply(ins, args, tables):
    if ins[0] == 3:
        return one(ins[1], *args)
    if ins[0] == 4:
        return two(ins[1], *args)
    if ins[0] == 9:
        return Fraction(args[0] != 0)
    if ins[0] == 10:
        return (min, max)[ins[1]](args)
    if ins[1] >= len(tables):
        raise CodeError(9)
    return at_table(tables[ins[1]], *args)


ARGUMENTS = {3: 1, 4: 2, 7: 1, 9: 1, 10: 2}


def constant(code, tables):
    row = cut(code)
    if any(ins[0] in (1, 2, 8) for ins in row):
        return None
    try:
        return evaluate(row, tables)
    except CodeError:
        return None


def evaluate(row, tables):
    stack = []
    while row:
        ins = row[0]
        row = row[1:]
        if ins[0] == 0:
            stack.append(Fraction(ins[1], ins[2]))
        elif ins[0] in (5, 6):
            if ins[0] == 6 and not stack:
                raise CodeError(9)
            if ins[0] == 5 or stack.pop() == 0:
                if ins[1] > len(row):
                    raise CodeError(9)
                row = row[ins[1]:]
        else:
            count = ARGUMENTS[ins[0]]
            if len(stack) < count:
                raise CodeError(9)
            stack[-count:] = [apply(ins, stack[-count:], tables)]
    if len(stack) != 1:
        raise CodeError(9)
    return stack[0]


def fold_code(code, tables):
    x = constant(code, tables)
    if x is not None:
        return [0, x.numerator, x.denominator]
    row = cut(code)
    if any(ins[0] in (5, 6) for ins in row):
        return code
    out = []
    for ins in row:
        count = ARGUMENTS.get(ins[0], 0)
        found = out[-count:] if count else []
        if count and len(found) == count and all(other[0] == 0 for other in found):
            try:
                x = apply(ins, [Fraction(other[1], other[2]) for other in found], tables)
                out[-count:] = [[0, x.numerator, x.denominator]]
                continue
            except CodeError:
                pass
        out.append(ins)
    return sum(out, [])


def is_code(code):
    row = list(code)
    while row:
        if row[0] not in range(11):
            return False
        size = {0: 3, 8: 3, 9: 1}.get(row[0], 2)
        first, *rest = row[:size]
        if len(rest) != size - 1:
            return False
        if first == 0:
            n, d = rest
            if d < 1 or abs(n) > BIG or d > BIG or math.gcd(n, d) != 1:
                return False
        elif rest and (min(rest) < 0 or rest[0] > {3: 7, 4: 12, 10: 1}.get(first, BIG)):
            return False
        row = row[size:]
    return len(code) <= 500


def listed(found):
    return [len(found), *sorted(found)]


class Model:
    def __init__(self):
        self.tables = []
        self.told = []
        self.known = None
        self.again()

    def again(self):
        self.begun = False
        return [0]

    def start(self):
        if not self.begun:
            self.now = [(kind, list(numbers), list(code)) for kind, numbers, code in self.told]
            self.place = {i: i for i in range(len(self.told))}
            self.origin = list(range(len(self.told)))

    def spots(self, i):
        kind, numbers, code = self.now[i]
        if kind == 11:
            return [k for k in range(len(numbers)) if k >= 2 and k % 2 == 0]
        return list(EXPECTED_KINDS[kind][1])

    def labels(self, i):
        return [self.now[i][1][k] for k in self.spots(i)]

    def ready(self):
        n = len(self.now)
        return n > 0 and all(label < n for i in range(n) for label in self.labels(i))

    def onward(self, i):
        kind, numbers, code = self.now[i]
        if kind == 3:
            return numbers[0]
        x = constant(code, self.tables)
        if x is None or kind not in (1, 4, 5):
            return None
        if kind == 4:
            return numbers[0] if x == 0 else i + 1
        if kind == 5:
            return i + 1 if x != 0 else None
        return i + 1 if 0 <= x < 1 else None

    def lead(self, i):
        seen = set()
        j = i
        while True:
            if j in seen:
                return i
            seen.add(j)
            k = self.onward(j)
            if k is None or k == len(self.now):
                return j
            j = k

    def following(self, i):
        kind, numbers, code = self.now[i]
        n = len(self.now)
        k = self.onward(i)
        if k is not None:
            found = {k}
        elif kind == 5 and constant(code, self.tables) == 0:
            found = set()
        elif kind == 14:
            found = set(range(n))
        else:
            found = set(self.labels(i)) | ({i + 1} if EXPECTED_KINDS[kind][3] else set())
        return found - {n}

    def live(self):
        found = {i for i, (kind, numbers, code) in enumerate(self.now) if kind == 0 and numbers[3] > 0}
        while True:
            more = set().union(found, *(self.following(i) for i in found))
            if more == found:
                return found
            found = more

    def frozen(self):
        return any(self.now[i][0] in (13, 14) for i in self.live())

    def idle(self):
        live = self.live()
        held = {self.now[i][1][0] for i in live if self.now[i][0] == 41}
        found = set()
        for i in sorted(live, reverse=True):
            if self.onward(i) is not None and i not in held:
                t = self.lead(i)
                if t > i and all(j in found for j in range(i + 1, t) if j in live):
                    found.add(i)
        return found

    def block(self, kind, numbers, code):
        if self.begun:
            return [-1]
        if len(self.told) == 200:
            return [-2]
        self.told.append((kind, list(numbers), list(code)))
        return [len(self.told) - 1]

    def table(self, kind, xs, ys):
        if self.begun:
            return [-1]
        self.tables.append((kind, pairs(xs), pairs(ys)))
        return [len(self.tables) - 1]

    def work(self, steps):
        self.start()
        if not self.ready():
            return [-5]
        self.begun = True
        return [0] + [step() for step in steps]

    def fold(self):
        before = self.now
        self.now = [(kind, numbers, fold_code(code, self.tables)) for kind, numbers, code in before]
        return sum(a[2] != b[2] for a, b in zip(before, self.now))

    def decide(self):
        n = len(self.now)
        onward = [self.onward(i) for i in range(n)]
        due = [i for i in range(n) if onward[i] not in (None, n) and self.now[i][0] != 3]
        for i in due:
            self.now[i] = (3, [onward[i]], [])
        return len(due)

    def short(self):
        n = len(self.now)
        lead = [self.lead(i) for i in range(n)]
        changed = 0
        for i in range(n):
            kind, numbers, code = self.now[i]
            numbers = list(numbers)
            for k in self.spots(i) if kind != 41 else []:
                changed += numbers[k] != lead[numbers[k]]
                numbers[k] = lead[numbers[k]]
            self.now[i] = (kind, numbers, code)
        self.place = {i: lead[p] for i, p in self.place.items()}
        return changed

    def drop(self):
        n = len(self.now)
        live = self.live()
        if not live or self.frozen():
            return 0
        stay = sorted(live - self.idle())
        if len(stay) == n:
            return 0
        lead = [self.lead(i) for i in range(n)]
        new = {i: k for k, i in enumerate(stay)}
        image = []
        for i in stay:
            kind, numbers, code = self.now[i]
            numbers = list(numbers)
            for k in self.spots(i):
                numbers[k] = new[numbers[k]] if kind == 41 else new.get(lead[numbers[k]], new[i])
            image.append((kind, numbers, code))
        self.place = {i: new[lead[p]] for i, p in self.place.items() if p in live}
        self.origin = [self.origin[i] for i in stay]
        self.now = image
        return n - len(stay)

    def look(self, i):
        kind, numbers, code = self.now[i]
        return [kind, len(numbers), *numbers, len(code), *code]

    def leads(self, i):
        gone = [i]
        while len(gone) < len(self.now) and self.onward(gone[-1]) not in (None, len(self.now)):
            gone.append(self.onward(gone[-1]))
        return [self.lead(i), len(gone), *gone]

    def asked(self, question, i):
        self.start()
        if not self.ready():
            return [-5]
        if not 0 <= i < len(self.now):
            return [-6]
        return question(i)

    def size(self, i=0):
        return [len(self.now), len(self.told), len(self.tables), int(self.frozen())]

    def edges(self):
        """For each block what may come next; worked out once for an image."""
        image = (repr(self.now), len(self.tables))
        if self.known != image:
            self.known = image
            self.after = [self.following(i) for i in range(len(self.now))]
            self.without = {}
        return self.after

    def reached(self, begins, gone_round=None):
        after = self.edges()
        found = set(begins) - {gone_round}
        fresh = found
        while fresh:
            fresh = set().union(*(after[i] for i in fresh)) - found - {gone_round}
            found = found | fresh
        return found

    def next(self, i):
        return listed(self.edges()[i])

    def rings(self, i=0):
        n = len(self.now)
        found = set()
        for i in range(n):
            j = i
            for k in range(n):
                j = self.onward(j)
                if j is None or j == n:
                    break
                if j == i:
                    found.add(i)
                    break
        return listed(found)

    def dominators(self, i):
        begins = {j for j, (kind, numbers, code) in enumerate(self.now) if kind == 0 and numbers[3] > 0}
        self.edges()
        for j in range(len(self.now)):
            if j not in self.without:
                self.without[j] = self.reached(begins, j)
        if i not in self.reached(begins):
            return [0]
        return listed({j for j in range(len(self.now)) if i not in self.without[j]})

    def circle(self, i):
        return listed({i} | {j for j in self.reached(self.edges()[i]) if i in self.reached(self.edges()[j])})

    def asked_place(self, i):
        self.start()
        if not self.ready():
            return [-5]
        if not 0 <= i < len(self.told):
            return [-6]
        return [self.place.get(i, -10)]

    def worth(self, code):
        if not is_code(code):
            return [-4]
        row = cut(code)
        if any(ins[0] in (1, 2, 8) for ins in row):
            return [2]
        try:
            x = evaluate(row, self.tables)
        except CodeError as e:
            return [1, *e.args]
        return [0, x.numerator, x.denominator]

    def folded(self, code):
        if not is_code(code):
            return [-4]
        row = fold_code(code, self.tables)
        return [len(row), *row]

    def answer_question(self, place, rest):
        if place == 18:
            return self.asked_place(*rest)
        if place in (20, 21):
            return (self.worth if place == 20 else self.folded)(*rest)
        return self.asked({
            9: self.look, 10: self.size, 11: self.leads, 12: self.next, 13: lambda i: listed(self.live()),
            14: lambda i: listed(self.idle()), 15: self.rings, 16: self.dominators, 17: self.circle,
            19: lambda i: [self.origin[i]], 22: lambda i: sum(map(self.look, range(len(self.now))), [len(self.now)]),
        }[place], *(rest or (0,)))

    def answer(self, call):
        place, *rest = call
        if place == 0:
            return self.block(*rest)
        if place == 1:
            return self.table(*rest)
        if place == 7:
            return self.again()
        if place == 8:
            self.__init__()
            return [0]
        if place >= 9:
            return self.answer_question(place, rest)
        every = [self.fold, self.decide, self.short, self.drop]
        return self.work(every if place == 6 else [every[place - 2]])


def pairs(row):
    return [Fraction(row[k], row[k + 1]) for k in range(0, len(row), 2)]


SOME_NUMBERS = (
    (0, 1), (0, 1), (1, 1), (1, 1), (2, 1), (-1, 1), (1, 2), (-3, 2), (7, 3), (64, 1), (65, 1), (-64, 1), (BIG, 1),
    (-BIG, 1), (1, BIG), (10 ** 9, 1), (1, 10 ** 9 + 7), (10, 1), (18, 1), (-18, 1),
)


def made_up_code(rng):
    code = []
    reads = rng.random() < 0.3
    jumps = rng.random() < 0.2
    for k in range(rng.choice((0, 1, 1, 1, 2, 3, 4, 6, 9, 14))):
        pick = rng.random()
        if k == 0 or pick < 0.45:
            code += [0, *rng.choice(SOME_NUMBERS)]
        elif pick < 0.55 and reads:
            code += rng.choice(([1, 0], [2, 3], [8, 0, 1]))
        elif pick < 0.6 and jumps:
            code += [rng.choice((5, 6)), rng.randrange(4)]
        elif pick < 0.7:
            code += [3, rng.randrange(8)]
        elif pick < 0.88:
            code += [4, rng.randrange(13)]
        elif pick < 0.93:
            code += [7, rng.randrange(3)]
        elif pick < 0.96:
            code += [9]
        else:
            code += [10, rng.randrange(2)]
    return code


def made_up_sound_code(rng):
    """A code that finds what it takes off its stack, but where a jump is made; it may read something."""
    code = []
    depth = 0
    reads = rng.random() < 0.5
    for k in range(rng.choice((3, 5, 8, 13, 20))):
        pick = rng.random()
        if depth == 0 or pick < 0.3:
            code += rng.choice(([1, 0], [2, 3], [8, 0, 1])) if reads and rng.random() < 0.2 else [0, *rng.choice(SOME_NUMBERS)]
            depth += 1
        elif depth >= 2 and pick < 0.7:
            code += [4, rng.randrange(13)] if pick < 0.6 else [10, rng.randrange(2)]
            depth -= 1
        elif pick < 0.95:
            code += rng.choice(([3, rng.randrange(8)], [7, rng.randrange(3)], [9]))
        else:
            code += [5, rng.randrange(2)]
    return code + [4, 2] * (depth - 1)


def made_up_block(rng, n):
    if rng.random() < 0.6:
        kind = rng.choice((0, 1, 3, 3, 4, 4, 5, 5, 9, 11, 15, 17, 41))
    else:
        kind = rng.choice([k for k in range(45) if k not in (13, 14) or rng.random() < 0.3])
    counts, labels, has_code, on = EXPECTED_KINDS[kind]
    numbers = [rng.randrange(-1, 3) for k in range(rng.choice(counts[:4]))]
    if kind == 11:
        labels = range(2, len(numbers), 2)
    for k in labels:
        numbers[k] = rng.randrange(n)
    code = []
    if has_code:
        code = made_up_code(rng) if rng.random() < 0.5 else [0, *rng.choice(((0, 1), (1, 1), (1, 2)))]
    return (0, kind, numbers, code)


def made_up_table(rng):
    kind = rng.randrange(3)
    count = rng.randrange(1, 4)
    xs = []
    for x in sorted(rng.sample(range(-4, 5), count)):
        xs += [x * 2, 4]
    ys = []
    for k in range(count):
        ys += rng.choice(SOME_NUMBERS)
    return (1, kind, [] if kind == 2 else xs, ys)


def made_up_calls(rng):
    calls = []
    n = rng.choice((1, 2, 3, 5, 8, 12, 20, 30))
    for k in range(rng.randrange(3)):
        calls.append(made_up_table(rng))
    for k in range(n):
        calls.append(made_up_block(rng, n + (rng.random() < 0.005)))
    if rng.random() < 0.7:
        calls[len(calls) - n] = (0, 0, [0, 0, 0, 1, 0], [])
    calls += made_up_questions(rng, n)
    for k in range(rng.choice((1, 2, 4, 6))):
        calls.append((rng.choice((2, 3, 4, 5, 5, 6, 6)),))
        if rng.random() < 0.1:
            calls.append((7,))
        if rng.random() < 0.03:
            calls.append((8,))
        if rng.random() < 0.1:
            calls.append(made_up_block(rng, n))
        calls += made_up_questions(rng, n)
    return calls[:400]


def made_up_questions(rng, n):
    calls = [(10,), (13,), (14,), (15,), (22,)]
    for i in range(-1, n + 1):
        calls += [(place, i) for place in (9, 11, 12, 16, 17, 18, 19) if rng.random() < 0.5]
    for k in range(rng.randrange(3)):
        code = made_up_code(rng)
        if rng.random() < 0.1:
            code[rng.randrange(len(code) + 1):] = [rng.randrange(-1, 13)]
        calls.append((rng.choice((20, 21)), code))
    rng.shuffle(calls)
    return calls


def flat(call):
    if call[0] == 0:
        return block(*call[1:])
    if call[0] == 1:
        return table(*call[1:])
    if call[0] == 20:
        return worth(*call[1:])
    if call[0] == 21:
        return folded(*call[1:])
    return list(call)


LISTS = 400


class AgainstModel(unittest.TestCase):
    def test_answers(self):
        for seed in range(LISTS):
            self.check(seed, made_up_calls(random.Random(seed)))

    def test_codes(self):
        for seed in range(LISTS):
            rng = random.Random(seed)
            codes = [made_up_sound_code(rng) for k in range(10)]
            tables = [made_up_table(rng) for k in range(rng.randrange(3))]
            self.check(seed, tables + [(20, code) for code in codes] + [(21, code) for code in codes])

    def check(self, seed, calls):
        model = Model()
        due = [model.answer(call) for call in calls]
        with self.subTest(seed=seed):
            self.assertEqual(run(*[flat(call) for call in calls]), due)


if __name__ == "__main__":
    unittest.main()
