"""The least costs of mends, node by node and type by type, and what is kept in mends of the least cost."""

from turnsfit.formulas import letters_of
from turnsfit.lotwalks import numbers_inside
from turnsfit.nodes import all_things, size_of
from turnsfit.rowmends import PriceWalk
from turnsfit.rowtables import rows_table
from turnsfit.stacks import taken

KEEP_TEXT = 0


class NodePrices:
    """The prices of mends of all things in a document, by sizes of the letters put, None for what cannot be put."""

    def __init__(self, schema, node, sizes):
        self.schema = schema
        self.sizes = sizes
        self.things = all_things((node,))
        self.inside = numbers_inside(self.things)
        self.numbers = {triple[0]: number for number, triple in enumerate(schema.types)}
        self.tables = [rows_table(formula, letters_of(formula)) for _, _, formula in schema.types]
        self.puts = [[sizes[letter] for letter in table.letters] for table in self.tables]
        self.drops = [size_of(thing) for thing in self.things]
        self.walks = [None] * len(self.things)
        self.costs = [None] * len(self.things)
        for at in range(len(self.things) - 1, -1, -1):
            if not isinstance(self.things[at], str):
                self._work_out(at)

    def _work_out(self, at):
        """Work the walks and costs of a node out, for each type, from those of the things in it."""
        self.walks[at] = []
        self.costs[at] = []
        for number, triple in enumerate(self.schema.types):
            keeps = self.keeps_inside(at, number)
            walk = PriceWalk(self.tables[number], self.drops_inside(at), self.puts[number], keeps)
            end = walk.best_end()
            more = 0 if triple[1] == self.things[at][0] else 1
            self.walks[at].append(walk)
            self.costs[at].append(None if end is None else walk.prices[-1][end] + more)

    def drops_inside(self, at):
        return [self.drops[inner] for inner in self.inside[at]]

    def keeps_inside(self, at, number):
        """List what it costs to keep each thing of a node, by the letters of a type's table."""
        letters = self.tables[number].letters
        return [[self._keep(inner, letter) for letter in letters] for inner in self.inside[at]]

    def _keep(self, at, letter):
        if self.costs[at] is None:
            return KEEP_TEXT if letter == "" else None
        return None if letter == "" else self.costs[at][self.numbers[letter]]

    def best_top(self):
        """Tell the number of the first top of the least cost, None if there is none."""
        tops = [self.numbers[kind] for kind in self.schema.tops if self.costs[0][self.numbers[kind]] is not None]
        return min(tops, key=lambda number: self.costs[0][number]) if tops else None

    def mend(self, number):
        """Tell a mend of the least cost of the document as a type."""
        waiting = [(0, number)]
        found = []
        while waiting:
            at, number = waiting.pop()
            walk = self.walks[at][number]
            steps = walk.steps_to(walk.best_end())
            found.append((number, steps, self._kept_inside(at, steps)))
            waiting.extend([pair for pair in found[-1][2] if pair is not None][::-1])
        made = []
        for number, steps, kept in found[::-1]:
            inner = taken(made, len([pair for pair in kept if pair is not None]))
            made.append((self.schema.types[number][0], _steps_with(steps, kept, inner)))
        return made[0]

    def _kept_inside(self, at, steps):
        """List, for each thing that is kept, the pair of its number and that of its type, None for a text."""
        found = []
        place = 0
        for step in steps:
            if step[0] == "keep":
                inner = self.inside[at][place]
                found.append(None if step[1] == "" else (inner, self.numbers[step[1]]))
            if step[0] != "put":
                place += 1
        return found


def _steps_with(steps, kept, inner):
    """Make steps of a mend of those of a row: with the mends of the nodes that are kept."""
    made = []
    many = 0
    nodes = 0
    for step in steps:
        if step[0] == "keep":
            if kept[many] is None:
                step = ("keep", "")
            else:
                step = ("keep", inner[nodes])
                nodes += 1
            many += 1
        made.append(step)
    return tuple(made)


class BestMends:
    """What mends of the least cost of a document keep, and what some of them drop, beginning with some types."""

    def __init__(self, prices, numbers):
        self.prices = prices
        many = len(prices.things)
        self.kept = [{} for _ in range(many)]
        self.dropped = [False] * many
        for number in numbers:
            self.kept[0][number] = True
        for at in range(many):
            for number in sorted(self.kept[at]):
                if not isinstance(prices.things[at], str):
                    self._look_into(at, number)

    def _look_into(self, at, number):
        """Note for the things in a node what mends of the least cost of it as a type do with them."""
        prices = self.prices
        table = prices.tables[number]
        keeps = prices.keeps_inside(at, number)
        ahead = prices.walks[at][number].prices
        behind = _prices_behind(table, prices.drops_inside(at), prices.puts[number], keeps)
        best = behind[0][0]
        for place, inner in enumerate(prices.inside[at]):
            for state, price in enumerate(ahead[place]):
                if price is None:
                    continue
                if price + _plus(prices.drops[inner], behind[place + 1][state], best) == best:
                    self.dropped[inner] = True
                for letter, other, cost in zip(table.letters, table.nexts[state], keeps[place]):
                    if cost is not None and price + _plus(cost, behind[place + 1][other], best) == best:
                        self.kept[inner][-1 if letter == "" else prices.numbers[letter]] = True


def _plus(cost, price, best):
    """Tell a sum, more than the best one where there is no price."""
    return best + 1 if price is None else cost + price


def _prices_behind(table, drops, puts, keeps):
    """List for each number of things and each state the least cost of steps to an end, None if there are none."""
    rows = [_put_ahead(table, puts, [0 if state in table.ends else None for state in range(len(table.nexts))])]
    for drop, row in zip(drops[::-1], keeps[::-1]):
        found = []
        for state, after in enumerate(table.nexts):
            known = [] if rows[-1][state] is None else [drop + rows[-1][state]]
            known.extend([cost + rows[-1][other] for other, cost in zip(after, row)
                          if cost is not None and rows[-1][other] is not None])
            found.append(min(known) if known else None)
        rows.append(_put_ahead(table, puts, found))
    return rows[::-1]


def _put_ahead(table, puts, prices):
    """Let letters be put until no price gets less."""
    changed = True
    while changed:
        changed = False
        for state, after in enumerate(table.nexts):
            known = [cost + prices[other] for other, cost in zip(after, puts)
                     if cost is not None and prices[other] is not None]
            if known and (prices[state] is None or min(known) < prices[state]):
                prices[state] = min(known)
                changed = True
    return prices
