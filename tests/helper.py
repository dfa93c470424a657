"""What the tests share: programs of few words, drawn programs, and a plain second reading of section 6.

The second reading keeps its tasks and its rows from move to move, never puts a row together while it
works, and reads the program from the words of its lines, so that it shares nothing with the package.
"""

from lastasked.moves import after
from lastasked.programs import Program
from lastasked.stands import first_stand

# Each line of the table, with each word of take, send, keep and back.
FULL = (
    "worths 4", "house", "  in order", "  cell n 3", "  cell m 0",
    "  ask save", "    set n it", "    if it = 2", "      if n = m", "        refuse", "      else", "        add m 1",
    "    else", "      if it = 3", "        answer n", "    answer it",
    "  ask load", "  ask find", "    answer m",
    "screen", "  cell v 0", "  cell w 1", "  cell x 2", "  cell y 3", "  show x v",
    "  unsure y = 0", "  unsure y = 0",
    "  take save last", "  take find rising", "  send save one", "  send load latest", "  send find queued",
    "  keep load only", "  keep find both", "  back v redone", "  back y redone",
    "  deed pick upto 3", "    if it = 0", "      if v = w", "        ask save it guess v = it guess w + 2", "      else",
    "        anew", "    else", "      ask load v guess y + it", "    set x 2", "    ask find w",
    "  deed tap", "    off save", "    forget load", "  deed type upto 1", "    add y it",
    "  answer save", "    if asked = it", "      set v asked", "    ask find it", "  refused save", "    add w asked",
    "  answer load", "    ask find asked guess x = asked", "  refused find", "    set y it",
    "  over", "    if x = 3", "      anew", "    else", "      add x y", "    ask save 1 guess v + x")

# The shortest program.
BARE = ("worths 2", "house", "  ask a", "screen", "  cell c 0", "  show c", "  deed d", "    anew")


def made(*rows):
    """The program of these lines."""
    return Program("\n".join(rows))


def behind(program, *story, stand=None):
    """The stand behind these moves."""
    if stand is None:
        stand = first_stand(program)
    for move in story:
        stand = after(program, stand, move)
    return stand


def deed(name, it=0):
    return ("deed", name, it)


def does(n):
    return ("does", n)


def comes(n):
    return ("comes", n)


def sends(n):
    return ("sends", n)


def gone(n):
    return ("gone", n)


# The lines of a program as a tree.


def tree_of(text):
    """The lines as a list of (words, lines below)."""
    rows = [(len(row) - len(row.lstrip(" ")), row.split()) for row in text.split("\n")]

    def below(at, depth):
        found = []
        while at < len(rows) and rows[at][0] == depth:
            words = rows[at][1]
            children, at = below(at + 1, depth + 2)
            found.append((words, children))
        return found, at

    return below(0, 0)[0]


def text_of(tree, depth=0):
    """The text of such a tree."""
    rows = []
    for words, children in tree:
        rows.append("  " * depth + " ".join(words))
        if children:
            rows.append(text_of(children, depth + 1))
    return "\n".join(rows)


# The second reading.


class Second:
    """A screen and its house as section 6 tells, begun at first or at a stand."""

    def __init__(self, text, stand=None):
        tree = tree_of(text)
        self.worths = int(tree[0][0][1])
        house, screen = tree[1][1], tree[2][1]
        self.in_order = [words for words, _ in house if words == ["in", "order"]] != []
        self.house = {words[1]: int(words[2]) for words, _ in house if words[0] == "cell"}
        self.asks = {words[1]: below for words, below in house if words[0] == "ask"}
        self.words = {"take": {}, "send": {}, "keep": {}, "back": {}}
        self.firsts, self.deeds, self.handlers = {}, {}, {}
        for words, below in screen:
            if words[0] in self.words:
                self.words[words[0]][words[1]] = words[2]
            elif words[0] == "cell":
                self.firsts[words[1]] = int(words[2])
            elif words[0] == "deed":
                self.deeds[words[1]] = (int(words[3]) if len(words) > 2 else 0, below)
            elif words[0] in ("answer", "refused"):
                self.handlers[words[0], words[1]] = below
        self.cells = {}
        self.anew_cells()
        self.stores = {ask: {} for ask in self.asks if ask in self.words["keep"]}
        self.tasks = []
        if stand is not None:
            self.begin_at(stand)

    def begin_at(self, stand):
        house, cells, stores, tasks = stand
        self.house = dict(zip(self.house, house))
        for ask, worth, phase, answer, mark, guesses in tasks:
            self.tasks.append({"ask": ask, "worth": worth, "phase": phase, "answer": answer, "mark": mark,
                               "had": dict(guesses)})
        for name, cell in zip(self.firsts, cells):
            if name in self.words["back"]:
                entries = [[word, worth, self.tasks[n] if n >= 0 else None] for word, worth, n in cell[1]]
                self.cells[name] = [["set", cell[0], None]] + entries
            else:
                self.cells[name] = cell
        self.stores = {ask: dict(store) for ask, store in zip(self.stores, stores)}

    # What it tells.

    def stand(self):
        tasks = []
        for task in self.tasks:
            had = tuple((name, task["had"][name]) for name in self.firsts if name in task["had"])
            tasks.append((task["ask"], task["worth"], task["phase"], task["answer"], task["mark"], had))
        cells = tuple(self.row_of(name) if name in self.words["back"] else self.cells[name] for name in self.firsts)
        stores = tuple(tuple(sorted(self.stores[ask].items())) for ask in self.stores)
        return (tuple(self.house.values()), cells, stores, tuple(tasks))

    def row_of(self, name):
        """Between two guesses nothing stands, one set, or one add that is not 0; ahead of all one set: the base."""
        parts, owners = [[]], []
        for word, worth, owner in self.cells[name]:
            if owner is None:
                parts[-1].append((word, worth))
            elif owner != "dead":
                owners.append((word, worth, [task is owner for task in self.tasks].index(True)))
                parts.append([])
        entries = []
        for n, part in enumerate(parts):
            sets = [k for k, (word, _) in enumerate(part) if word == "set"]
            rest = sum(worth for word, worth in part[sets[-1] if sets else 0:]) % self.worths
            if n == 0:
                base = rest
            elif sets or rest:
                entries.append(("set" if sets else "add", rest, -1))
            if n < len(owners):
                entries.append(owners[n])
        return (base, tuple(entries))

    def shown(self, text):
        lines = [words for words, _ in tree_of(text)[2][1]]
        for words in lines:
            if words[0] == "unsure" and self.worth(words[1]) == int(words[3]):
                return None
        return tuple(self.worth(name) for words in lines if words[0] == "show" for name in words[1:])

    def moves(self, many):
        found = []
        for name, (upto, _) in self.deeds.items():
            for it in range(upto + 1):
                behind_it = self.copy()
                behind_it.do(("deed", name, it))
                if len(behind_it.tasks) <= many:
                    found.append(("deed", name, it))
        outs = [task for task in self.tasks if task["phase"] == "out"]
        for n, task in enumerate(self.tasks):
            if task["phase"] == "held":
                send = self.words["send"][task["ask"]]
                alike = [other for other in self.tasks if other["ask"] == task["ask"]]
                bars = [other for other in alike if other["phase"] != "held" and other["mark"] != "off"]
                first = [other for other in alike if other["phase"] == "held"][0]
                if send == "resting" or first is task and not bars:
                    found.append(("sends", n))
            elif task["phase"] == "out":
                if not self.in_order or outs[0] is task:
                    found.append(("does", n))
                if task["mark"] == "off":
                    found.append(("gone", n))
            else:
                found.append(("comes", n))
        return tuple(sorted(found))

    def copy(self):
        other = object.__new__(Second)
        other.__dict__.update(self.__dict__)
        tasks = {id(task): {**task, "had": dict(task["had"])} for task in self.tasks}
        other.tasks = [tasks[id(task)] for task in self.tasks]
        other.house = dict(self.house)
        other.stores = {ask: dict(self.stores[ask]) for ask in self.stores}
        other.cells = {}
        for name, cell in self.cells.items():
            if isinstance(cell, list):
                cell = [[word, worth, tasks.get(id(owner), owner)] for word, worth, owner in cell]
            other.cells[name] = cell
        return other

    # What it does.

    def do(self, move):
        self.queue = []
        if move[0] == "deed":
            self.handler(self.deeds[move[1]][1], move[2], None, {})
        else:
            getattr(self, move[0])(self.tasks[move[1]])
        while self.queue:
            ask, worth, answer = self.queue.pop(0)
            self.handler(self.handlers.get(("answer", ask), []), answer, worth, {})

    def sends(self, task):
        self.lose(task)
        task["phase"] = "out"
        self.join(task)

    def gone(self, task):
        self.lose(task)

    def does(self, task):
        ending = self.house_does(self.asks[task["ask"]], task["worth"])
        task["phase"], task["answer"] = ending or ("answered", 0)
        if task["mark"] == "off":
            self.lose(task)

    def house_does(self, lines, it):
        def worth(word):
            return it if word == "it" else self.house[word] if word in self.house else int(word)
        for words, below in self.ways(lines, worth):
            if words[0] == "answer":
                return ("answered", worth(words[1]))
            if words[0] == "refuse":
                return ("refused", 0)
            if words[0] == "if":
                ending = self.house_does(below, it)
                if ending:
                    return ending
            else:
                was = self.house[words[1]] if words[0] == "add" else 0
                self.house[words[1]] = (was + worth(words[2])) % self.worths
        return None

    def ways(self, lines, worth):
        """The lines in their sequence, of an if and its else the one that holds, as an if."""
        holds = None
        for words, below in lines:
            if words[0] == "if":
                holds = worth(words[1]) == worth(words[3])
                if holds:
                    yield ["if"], below
            elif words[0] == "else":
                if not holds:
                    yield ["if"], below
            else:
                yield words, below

    def comes(self, task):
        ahead = self.tasks[:[other is task for other in self.tasks].index(True)]
        self.lose(task)
        spots = {}
        for name in self.firsts:
            if name in task["had"] and task["phase"] == "refused":
                self.cells[name] = task["had"][name]
            if name in self.words["back"]:
                for entry in self.cells[name]:
                    if entry[2] is task:
                        entry[2] = None if task["phase"] == "answered" else "dead"
                        spots[name] = entry
        if task["mark"] != "live":
            return
        ask = task["ask"]
        if task["phase"] == "answered":
            if ask in self.stores:
                self.stores[ask][task["worth"]] = task["answer"]
            if self.words["take"].get(ask) == "rising":
                self.pass_by(ahead, ask)
        word = "answer" if task["phase"] == "answered" else "refused"
        self.handler(self.handlers.get((word, ask), []), task["answer"], task["worth"], spots)

    def handler(self, lines, it, asked, spots):
        """spots: for a cell the entry behind which this handler writes."""
        def worth(word):
            if word in ("it", "asked"):
                return it if word == "it" else asked
            return self.worth(word) if word in self.cells else int(word)
        for words, below in self.ways(lines, worth):
            if words[0] == "if":
                self.handler(below, it, asked, spots)
            elif words[0] == "ask":
                guesses = [(words[k], words[k + 1], worth(words[k + 2])) for k in range(4, len(words), 4)]
                self.ask(words[1], worth(words[2]), guesses)
            elif words[0] == "off":
                self.off(words[1])
            elif words[0] == "forget":
                if words[1] in self.stores:
                    self.stores[words[1]] = {}
            elif words[0] == "anew":
                self.anew_cells()
                for task in self.tasks:
                    task["had"] = {}
                spots.clear()
            else:
                self.write(words[0], words[1], worth(words[2]), spots)

    def write(self, word, name, worth, spots):
        if name not in self.words["back"]:
            self.cells[name] = worth if word == "set" else (self.cells[name] + worth) % self.worths
            return
        row, entry = self.cells[name], [word, worth, None]
        if name in spots:
            row.insert([other is spots[name] for other in row].index(True) + 1, entry)
            spots[name] = entry
        else:
            row.append(entry)

    def worth(self, name):
        if name not in self.words["back"]:
            return self.cells[name]
        worth = 0
        for word, much, owner in self.cells[name]:
            if owner != "dead":
                worth = much if word == "set" else (worth + much) % self.worths
        return worth

    def anew_cells(self):
        for name, first in self.firsts.items():
            self.cells[name] = [["set", first, None]] if name in self.words["back"] else first

    def ask(self, ask, worth, guesses):
        send, take, keep = (self.words[word].get(ask) for word in ("send", "take", "keep"))
        if worth in self.stores.get(ask, {}):
            self.queue.append((ask, worth, self.stores[ask][worth]))
            if take:
                self.pass_by(self.tasks, ask)
            if keep == "only":
                self.guess(guesses, None)
                return
        there = [task for task in self.tasks if task["ask"] == ask and task["mark"] != "off"]
        if send == "one" and there:
            return
        if send in ("latest", "resting"):
            for task in there:
                if task["phase"] == "held":
                    self.take_back(task)
                    self.lose(task)
        held = send == "resting" or send in ("latest", "queued") and there != []
        task = {"ask": ask, "worth": worth, "phase": "held" if held else "out", "answer": 0, "mark": "live", "had": {}}
        if take == "last":
            self.pass_by(self.tasks, ask)
        self.join(task)
        self.guess(guesses, task)

    def guess(self, guesses, task):
        for name, sign, worth in guesses:
            if task is not None and name not in self.words["back"]:
                task["had"][name] = self.cells[name]
            word = "set" if sign == "=" else "add"
            if name in self.words["back"]:
                self.cells[name].append([word, worth, task])
            else:
                self.write(word, name, worth, {})

    def off(self, ask):
        for task in self.tasks[::-1]:
            if task["ask"] == ask:
                self.take_back(task)
                task["mark"] = "off"
                if task["phase"] != "out":
                    self.lose(task)

    def take_back(self, task):
        for name in self.firsts:
            if name in task["had"]:
                self.cells[name] = task["had"][name]
            if name in self.words["back"]:
                # A refused one's place stays as it is: only what is of this task goes.
                self.cells[name] = [entry for entry in self.cells[name] if entry[2] is not task]
        task["had"] = {}

    def pass_by(self, tasks, ask):
        for task in tasks:
            if task["ask"] == ask and task["mark"] != "off":
                task["mark"] = "passed"

    def join(self, task):
        held = [other for other in self.tasks if other["phase"] == "held"]
        others = [other for other in self.tasks if other["phase"] != "held"]
        self.tasks = others + held + [task] if task["phase"] == "held" else others + [task] + held

    def lose(self, task):
        self.tasks = [other for other in self.tasks if other is not task]


# Drawn programs.


class Drawing:
    """Draws the tree of a program; rich ones have many words, guesses and handlers."""

    def __init__(self, draw):
        self.draw = draw
        self.worths = draw.randint(2, 4)
        self.house = self.names(["n", "m"], 0, 2)
        self.asks = self.names(["save", "load", "find"], 1, 3)
        self.cells = self.names(["v", "w", "x", "busy"], 1, 4)

    def names(self, names, least, most):
        return names[:self.draw.randint(least, most)]

    def text(self):
        return text_of([(["worths", str(self.worths)], []), (["house"], self.house_lines()),
                        (["screen"], self.screen_lines())])

    def worth(self):
        return str(self.draw.randrange(self.worths))

    def value(self, names):
        return self.draw.choice([self.worth(), self.worth()] + 2 * names)

    def house_lines(self):
        lines = [(["in", "order"], [])] if self.draw.random() < 0.3 else []
        lines += [(["cell", name, self.worth()], []) for name in self.house]
        for ask in self.asks:
            below = self.block(self.draw.randint(0, 3), self.house_line, 0, 9)[0]
            if self.draw.random() < 0.6:
                below.append((["answer", self.value(self.house + ["it"])], []))
            lines.append((["ask", ask], below))
        return lines

    def house_line(self, _):
        names = self.house + ["it"]
        kinds = ["answer", "refuse"] + ["set", "add"] * 2 * len(self.house[:1])
        kind = self.draw.choice(kinds)
        if kind in ("set", "add"):
            return [kind, self.draw.choice(self.house), self.value(names)]
        return ["refuse"] if kind == "refuse" else [kind, self.value(names)]

    def block(self, many, line, ifs, most, names=()):
        """Lines that a function draws, within ifs, too; and how many asks are left on each way behind them."""
        found = []
        for _ in range(many):
            if ifs < 2 and self.draw.random() < 0.25:
                values = list(names) or self.house + ["it"]
                words = ["if", self.value(values), "=", self.value(values)]
                below, left = self.block(self.draw.randint(1, 2), line, ifs + 1, most, names)
                found.append((words, below))
                if self.draw.random() < 0.5:
                    below, other = self.block(self.draw.randint(1, 2), line, ifs + 1, most, names)
                    found.append((["else"], below))
                    left = min(left, other)
                most = min(left, most)
            else:
                words = line(most)
                most -= words[0] == "ask"
                found.append((words, []))
        return found, most

    def handler(self, values, lets, most):
        """Lines below a deed, an answer, a refused or an over."""
        def line(left):
            kinds = ["set", "add", "set", "add", "off", "forget", "anew", "ask", "ask", "ask", "ask", "ask"]
            kind = self.draw.choice(kinds)
            if kind == "ask" and (left < 1 or not lets):
                kind = "add"
            if kind in ("off", "forget"):
                return [kind, self.draw.choice(self.asks)]
            if kind == "ask":
                return self.ask_words(values, lets)
            return ["anew"] if kind == "anew" else [kind, self.draw.choice(self.cells), self.value(values)]
        return self.block(self.draw.randint(1, 3), line, 0, most, values)[0]

    def ask_words(self, values, lets):
        words = ["ask", self.draw.choice(lets), self.value(values)]
        for cell in self.draw.sample(self.cells, min(len(self.cells), self.draw.randint(0, 2))):
            words += ["guess", cell, self.draw.choice("=+"), self.value(values)]
        return words

    def choices(self, word, names, words):
        drawn = [(name, self.draw.choice(words)) for name in names]
        return [([word, name, choice], []) for name, choice in drawn if choice != ""]

    def screen_lines(self):
        draw = self.draw
        lines = [(["cell", name, self.worth()], []) for name in self.cells]
        lines.append((["show"] + draw.sample(self.cells, min(len(self.cells), draw.randint(1, 2))), []))
        for _ in range(draw.choice([0, 0, 0, 1, 2])):
            lines.append((["unsure", draw.choice(self.cells), "=", self.worth()], []))
        lines += self.choices("take", self.asks, ["last", "rising", ""])
        lines += self.choices("send", self.asks, ["one", "latest", "queued", "resting", ""])
        lines += self.choices("keep", self.asks, ["only", "both", "", ""])
        lines += self.choices("back", self.cells, ["redone", "redone", ""])
        for name in self.names(["pick", "tap", "type"], 1, 3):
            upto = draw.randrange(self.worths)
            words = ["deed", name] + (["upto", str(upto)] if upto else [])
            lines.append((words, self.handler(self.cells + ["it"], self.asks, 2)))
        for n, ask in enumerate(self.asks):
            for word in ("answer", "refused"):
                if draw.random() < 0.6:
                    values = self.cells + ["it", "asked"]
                    lines.append(([word, ask], self.handler(values, self.asks[n + 1:], 1)))
        if draw.random() < 0.2:
            lines.append((["over"], self.handler(self.cells, self.asks, 1)))
        return lines


def drawn_text(draw):
    """The text of a drawn program."""
    return Drawing(draw).text()
