"""Documents mended at the least cost, and papers that none costs less."""

from turnsfit.costs import mend_made
from turnsfit.formulas import letters_of
from turnsfit.leastnodes import LeastNodes, check_sizes, raised_sizes
from turnsfit.mendprices import KEEP_TEXT, BestMends, NodePrices
from turnsfit.nodes import all_things, size_of
from turnsfit.places import places_of
from turnsfit.rowmends import check_prices
from turnsfit.rowtables import rows_table
from turnsfit.schemas import kinds_of
from turnsfit.words import is_number


def _prices(schema, node):
    return NodePrices(schema, node, LeastNodes(schema).letter_sizes())


def node_costs(schema, node):
    return tuple(_prices(schema, node).costs[0])


def distance(schema, node):
    prices = _prices(schema, node)
    top = prices.best_top()
    return None if top is None else prices.costs[0][top]


def least_mend(schema, node):
    prices = _prices(schema, node)
    top = prices.best_top()
    return None if top is None else prices.mend(top)


def mended(schema, node):
    mend = least_mend(schema, node)
    return None if mend is None else mend_made(schema, node, mend)


def low_paper(schema, node):
    if distance(schema, node) is None:
        return None
    # What cannot be put costs more than any mend, so it makes nothing cheaper.
    numbers = raised_sizes(schema, size_of(node))
    sizes = {kind: size for kind, size in zip(kinds_of(schema), numbers)}
    sizes[""] = 1
    prices = NodePrices(schema, node, sizes)
    rows = []
    for costs, walks in zip(prices.costs, prices.walks):
        if costs is not None:
            rows.append((tuple(costs), tuple([tuple([tuple(row) for row in walk.prices]) for walk in walks])))
    return (numbers, tuple(rows))


def check_low(schema, node, value, cost):
    if not isinstance(value, tuple) or len(value) != 2 or not check_sizes(schema, value[0]):
        return False
    sizes, rows = value
    nodes = [thing for thing in all_things((node,)) if not isinstance(thing, str)]
    if not isinstance(rows, tuple) or len(rows) != len(nodes):
        return False
    if not all([_is_row(row, len(sizes)) for row in rows]):
        return False
    judge = LowJudge(schema, sizes)
    at = len(rows)
    waiting = []
    for inner in nodes[::-1]:
        at -= 1
        many = len([thing for thing in inner[1] if not isinstance(thing, str)])
        below = waiting[len(waiting) - many:][::-1]
        del waiting[len(waiting) - many:]
        if not judge.holds(inner, rows[at], below):
            return False
        waiting.append(rows[at][0])
    return not any([number < cost for kind, number in zip(kinds_of(schema), rows[0][0]) if kind in schema.tops])


def _is_row(value, many):
    """Tell whether any value is a pair of a tuple of so many numbers and one of so many things."""
    if not isinstance(value, tuple) or len(value) != 2:
        return False
    if not all([isinstance(part, tuple) and len(part) == many for part in value]):
        return False
    return all([is_number(cost) for cost in value[0]])


class LowJudge:
    """Judges the rows of low papers, node by node."""

    def __init__(self, schema, sizes):
        self.schema = schema
        self.sizes = {kind: size for kind, size in zip(kinds_of(schema), sizes)}
        self.sizes[""] = 1
        self.tables = [rows_table(formula, letters_of(formula)) for _, _, formula in schema.types]

    def holds(self, node, row, below):
        """Tell whether the row of a node is right, those of the nodes right in it having some costs."""
        drops = [size_of(thing) for thing in node[1]]
        known = list(below)[::-1]
        costs = []
        for thing in node[1]:
            costs.append({"": KEEP_TEXT} if isinstance(thing, str) else self._by_kind(known.pop()))
        for number, triple in enumerate(self.schema.types):
            table = self.tables[number]
            puts = [self.sizes[letter] for letter in table.letters]
            keeps = [[cost.get(letter) for letter in table.letters] for cost in costs]
            prices = row[1][number]
            if not check_prices(table, drops, puts, keeps, prices):
                return False
            more = 0 if triple[1] == node[0] else 1
            ends = [prices[-1][end] for end in table.ends if prices[-1][end] is not None]
            if ends and row[0][number] > min(ends) + more:
                return False
        return True

    def _by_kind(self, costs):
        return {kind: cost for kind, cost in zip(kinds_of(self.schema), costs)}


def _best_mends(schema, node):
    """Tell what mends of the cost of the distance do with all things, None if nothing fits."""
    prices = _prices(schema, node)
    top = prices.best_top()
    if top is None:
        return None
    best = prices.costs[0][top]
    tops = [prices.numbers[kind] for kind in schema.tops]
    return BestMends(prices, [number for number in tops if prices.costs[0][number] == best])


def kept_places(schema, node):
    found = _best_mends(schema, node)
    if found is None:
        return ()
    return tuple([place for place, kept in zip(places_of(node), found.kept) if kept])


def sure_places(schema, node):
    found = _best_mends(schema, node)
    if found is None:
        return ()
    sure = {}
    for place, dropped in zip(places_of(node), found.dropped):
        if place == () or (not dropped and place[:-1] in sure):
            sure[place] = True
    return tuple(list(sure))
