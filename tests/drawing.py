"""What the drawn tests share: texts, houses and items drawn from a source that always begins alike."""

import random

NAMES = ("x", "y", "z", "e")
MACROS = ("m", "k", "m", "k", "m", "k", "x")
ODD = ("()", "*", "fn", "(fn (x x) 1)", "(now)", "(pick 1 2)", "(mac m (((a a) 1)) 1)", "(mac x)", "(fn x)", "=", "now")


class Drawer:
    """Draws texts in which few names are told, used and handed in again and again."""

    def __init__(self, seed, odd, words=NAMES):
        self.source = random.Random(seed)
        self.odd = odd
        self.words = words

    def name(self):
        return self.source.choice(self.words)

    def names(self, count):
        return self.source.sample(self.words, count)

    def leaf(self):
        if self.source.random() < self.odd:
            return self.source.choice(ODD)
        return self.source.choice([self.name(), self.name(), self.name(), str(self.source.randrange(4))])

    def tree(self, deep, macros):
        if deep == 0:
            return self.leaf()
        choice = self.source.randrange(20)
        inner = deep - 1
        if choice < 9 and macros:
            return self.use(inner, macros)
        if choice < 12:
            params = " ".join(self.names(self.source.randrange(3)))
            return f"(fn ({params}) {self.tree(inner, macros)})"
        if choice < 14:
            return self.told(inner, macros)
        if choice == 14:
            return f"(pick {self.tree(inner, macros)} {self.leaf()} {self.tree(inner, macros)})"
        if choice == 15:
            return f"(now {self.tree(inner, macros)})"
        if choice == 16:
            return self.leaf()
        return "(" + " ".join(self.tree(inner, macros) for _ in range(self.source.randrange(1, 4))) + ")"

    def use(self, deep, macros):
        name, parts = self.source.choice(macros)
        drawn = [self.handed(part, deep, macros) for part in parts]
        if self.source.random() < self.odd:
            drawn.append(self.leaf())
        return "(" + " ".join([name] + drawn) + ")"

    def handed(self, part, deep, macros):
        if part == "name":
            return self.name()
        if part == "pairs":
            return " ".join(f"({name} {self.leaf()})" for name in self.names(self.source.randrange(3)))
        if part == "many":
            return " ".join(self.tree(min(deep, 1), macros) for _ in range(self.source.randrange(4)))
        if part == "tree":
            return self.tree(deep, macros)
        return part

    def told(self, deep, macros):
        name = self.source.choice(MACROS)
        rules = []
        uses = list(macros)
        for _ in range(self.source.randrange(1, 3)):
            text, parts = self.rule(min(deep, 2), uses)
            rules.append(text)
            uses.append((name, parts))
        return f"(mac {name} ({' '.join(rules)}) {self.tree(deep, uses)})"

    def rule(self, deep, macros):
        one, two, three = self.names(3)
        body = self.tree(deep, macros)
        return self.source.choice([
            (f"(({one}) {body})", ["tree"]),
            (f"(({one} {two}) {body})", ["tree", "tree"]),
            (f"(({one} {two}) {body})", ["name", "tree"]),
            (f"(({one}) (fn ({two}) ({one} {two} {body})))", ["tree"]),
            (f"(({one} {two}) (fn ({one}) ({two} {one} {body})))", ["name", "tree"]),
            (f"(({one} {two} {three}) ((fn ({one}) {three}) {two}))", ["name", "tree", "tree"]),
            (f"(({one} *) (q {one} * {two}))", ["many"]),
            (f"((({one} {two}) * {three}) ((fn ({one} *) {three}) {two} *))", ["pairs", "tree"]),
            (f"(((= {one}) {two}) {body})", [one, "tree"]),
            (f"(((= {one}) {two}) ({two} {one}))", ["name", "tree"]),
            (f"(({one} {two}) (mac {one} ((({three}) ({three} {one} {two}))) {two}))", ["name", "tree"]),
            (f"(({one} {two}) (mac {three} ((({one}) (fn ({two}) {one}))) ({three} {two})))", ["name", "tree"]),
            (f"((({one} *) ({two} *)) (q ({one} {two}) *))", ["(x y)", self.source.choice(["(1 2)", "(1)"])]),
        ])

    def text(self):
        return " ".join(self.told(self.source.randrange(2, 5), []) for _ in range(self.source.randrange(1, 3)))

    def delays(self):
        bound = self.source.choice([2, 3, 8, 1000000007])
        return [self.source.randrange(bound) for _ in range(self.source.randrange(1, 60))]


def drawn_texts(seed, count):
    for number in range(count):
        drawer = Drawer(seed * 100003 + number, 0.0 if number % 2 else 0.06)
        yield drawer, drawer.text()


WORDS = (
    NAMES, ("x", "y", "fn", "def"), ("part", "show", "pick", "x"), ("x", "x2", "tell", "now"),
    ("mac", "x", "use", "add"),
)
ODD_ITEMS = (
    "(tell (x))", "(tell x)", "(def x)", "(def 1 1)", "(show)", "(show 1 2)", "(use)", "(use a x)", "(use c (x x))",
    "(mac x)", "(mac x (1))", "(mac x (((a a) 1)))", "(mac x (((a *) a)))", "7", "x", "tell", "(part b)", "()",
    "(use a (x nowhere))", "((tell) 1)", "(def * 1)", "(tell (* x))", "(mac y ((x)))", "(def x 1)", "(def x ())",
    "(tell (q q))", "(use nowhere)", "(tell (w w))", "(use a (w w))", "(use b)", "(tell (x w) (w x))",
)


class HouseDrawer(Drawer):
    """Draws houses whose parts hand names on to one another, under other names too."""

    def house(self):
        # To each part that is drawn the pairs of a THEIRS and what it is.
        self.told_by = {}
        names = ["a", "b", "c"][:self.source.choice([0, 1, 2, 2, 3, 3, 3])]
        if self.draw_odd() and names:
            names.append(self.source.choice(["a", "part", "4", "*"]))
        text = " ".join(self.part(name) for name in names)
        return text + self.source.choice([" x", " ()", " (part)", " (part (x))"]) if self.draw_odd() else text

    def draw_odd(self):
        return self.source.random() < self.odd

    def leaf(self):
        drawn = Drawer.leaf(self)
        if drawn in ("fn", "pick", "mac", "now") and self.source.randrange(6):
            return "1"
        return drawn

    def rule(self, deep, macros):
        if self.source.randrange(6):
            return Drawer.rule(self, deep, macros)
        # What is handed in is told in one place, and has no claim in another.
        one, two, three = self.names(3)
        fn = f"(fn ({one}) {two})"
        text = self.source.choice([f"({fn} {two})", f"(fn ({one} {three}) {two})", f"({two} {fn})"])
        return f"(({one} {two}) {text})", ["name", self.source.choice(["name", "tree"])]

    def part(self, name):
        claimed = {}
        plans = [self.plan(claimed) for _ in range(self.source.randrange(6))]
        macros = [(claim, thing) for claim, thing in claimed.items() if thing != "place"]
        items = [self.item(plan, macros) for plan in plans]
        shows = [self.tree(self.source.randrange(1, 4), macros) for _ in range(self.source.randrange(3))]
        items += [f"(show {tree})" for tree in shows]
        told = {}
        items += [self.tell(claimed, told) for _ in range(self.source.choice([0, 1, 1, 1, 2]))]
        if self.draw_odd():
            items.append(self.source.choice(ODD_ITEMS))
        self.source.shuffle(items)
        self.told_by[name] = told
        return f"(part {' '.join([name] + items)})"

    def plan(self, claimed):
        """Of an item what it claims, so that all that a part claims is known ahead of its EXPRs."""
        kind = self.source.choice(["use", "use", "use", "def", "mac", "mac"])
        if kind == "use" and self.told_by:
            source = self.source.choice(list(self.told_by))
            theirs = list(self.told_by[source].items())
            pairs = []
            for name, thing in self.source.sample(theirs, self.source.randrange(len(theirs) + 1)):
                mine = self.unclaimed(claimed, [name] + self.fresh_names(thing))
                if mine:
                    claimed[mine] = thing
                    pairs.append(f"({mine} {name})")
            return f"(use {' '.join([source] + pairs)})"
        name = self.unclaimed(claimed, self.fresh_names("place" if kind == "def" else "macro"))
        if name is None:
            return "(tell)"
        if kind == "def":
            claimed[name] = "place"
            return ("def", name)
        rule, parts = self.rule(2, [(claim, thing) for claim, thing in claimed.items() if thing != "place"])
        claimed[name] = parts
        return f"(mac {name} ({rule if self.source.randrange(25) else ''}))"

    def fresh_names(self, thing):
        # A macro that is called like what words mean elsewhere is often wrong there.
        return [self.name()] if thing == "place" or self.source.randrange(12) == 0 else ["m", "k", "o"]

    def unclaimed(self, claimed, names):
        left = [name for name in names if name not in claimed or self.draw_odd()]
        return self.source.choice(left) if left else None

    def item(self, plan, macros):
        return plan if isinstance(plan, str) else f"(def {plan[1]} {self.tree(self.source.randrange(3), macros)})"

    def tell(self, claimed, told):
        pairs = []
        for name in self.source.sample(list(claimed), self.source.randrange(len(claimed) + 1)):
            theirs = self.unclaimed(told, [name, self.name(), "q", "r"])
            if theirs:
                told[theirs] = claimed[name]
                pairs.append(f"({name} {theirs})")
        return f"(tell {' '.join(pairs)})"


def drawn_houses(seed, count):
    for number in range(count):
        words = WORDS[number % len(WORDS)]
        drawer = HouseDrawer(seed * 100003 + number, 0.0 if number % 3 else 0.05, words)
        yield drawer, drawer.house()


PLACE_NAMES = ("x", "y", "x2", "fn", "pick", "now", "mac", "add", "part", "y9", "x")
FREE_NAMES = ("add", "sub", "less", "x", "x2", "x22", "y9", "q")


class ItemDrawer:
    """Draws items whose places are any numbers, most of which run to something."""

    def __init__(self, seed, odd=0.05, places=PLACE_NAMES):
        self.source = random.Random(seed)
        self.odd = odd
        self.places = places
        self.used = set()

    def place(self):
        while True:
            number = self.source.randrange(self.source.choice([8, 60, 10 ** 12]))
            if number not in self.used:
                self.used.add(number)
                return number

    def items(self):
        """A want is "num", or of a fn how many things it takes, which are numbers."""
        kinds = [self.source.choice(["def", "def", "show"]) for _ in range(self.source.randrange(7))]
        wants = [self.source.choice(["num", 0, 1, 1, 2] if kind == "def" else ["num"] * 6 + [2]) for kind in kinds]
        places = [self.place() if kind == "def" else None for kind in kinds]
        tops = [(place, want) for place, want in zip(places, wants)]
        items = []
        for kind, place, want in zip(kinds, places, wants):
            scope = tops if self.source.randrange(4) == 0 else tops[:len(items)]
            core = self.core(self.source.randrange(6), [top for top in scope if top[0] is not None], want)
            items.append(("show", core) if kind == "show" else ("def", place, self.source.choice(self.places), core))
        return items

    def core(self, deep, scope, want):
        if self.source.random() < self.odd:
            want = self.source.choice(["num", 0, 1, 2, 3])
        if self.source.random() < self.odd / 4:
            return ("free", self.source.choice(FREE_NAMES))
        fitting = [place for place, kind in scope if kind == want]
        if fitting and self.source.random() < (0.3 if deep else 0.6):
            return ("seen", self.source.choice(fitting))
        if deep == 0:
            return self.leaf(want)
        if self.source.randrange(8) == 0:
            return ("pick",) + tuple(self.core(deep - 1, scope, kind) for kind in ("num", want, want))
        if self.source.randrange(10) == 0:
            return ("now", self.core(deep - 1, self.source.choice([[], scope]), want))
        return self.number(deep - 1, scope) if want == "num" else self.fn(deep - 1, scope, want)

    def leaf(self, want):
        if want == "num":
            return ("num", self.source.choice([0, 0, 1, 2, -3, 7, 10 ** 59, 1 - 10 ** 60]))
        if want == 2 and self.source.randrange(3):
            return ("free", self.source.choice(["add", "sub", "less"]))
        return self.fn(0, [], want)

    def fn(self, deep, scope, want):
        params = tuple((self.place(), self.source.choice(self.places)) for _ in range(want))
        return ("fn", params, self.core(deep, scope + [(place, "num") for place, _ in params], "num"))

    def number(self, deep, scope):
        count = self.source.choice([0, 1, 2, 2, 2])
        parts = tuple(self.core(deep, scope, "num") for _ in range(count))
        return ("call", self.core(deep, scope, count), parts)


def drawn_items(seed, count, odd=0.03):
    for number in range(count):
        drawer = ItemDrawer(seed * 100003 + number, odd)
        yield drawer, drawer.items()
