"""Rows mended: the least costs of steps through things that read a row of a row table."""

from turnsfit.words import is_number


class PriceWalk:
    """The least cost of steps to each state, thing by thing, and the last step of each."""

    def __init__(self, table, drops, puts, keeps):
        self.table = table
        self.puts = puts
        self.prices = []
        self.lasts = []
        self._begin_layer()
        self._set(0, 0, None)
        self._put_all()
        for cost, row in zip(drops, keeps):
            self._go_on(cost, row)

    def _begin_layer(self):
        self.prices.append([None] * len(self.table.nexts))
        self.lasts.append([None] * len(self.table.nexts))

    def _set(self, state, price, last):
        """Note a price, if it is less than the one known; tell whether it is."""
        known = self.prices[-1][state]
        if known is not None and known <= price:
            return False
        self.prices[-1][state] = price
        self.lasts[-1][state] = last
        return True

    def _go_on(self, cost, row):
        """Go on over one thing: drop it, or keep it as a letter."""
        ahead = self.prices[-1]
        self._begin_layer()
        for state, price in enumerate(ahead):
            if price is None:
                continue
            self._set(state, price + cost, (state, ("drop",)))
            for letter, other, more in zip(self.table.letters, self.table.nexts[state], row):
                if more is not None:
                    self._set(other, price + more, (state, ("keep", letter)))
        self._put_all()

    def _put_all(self):
        """Put letters until no price gets less."""
        changed = True
        while changed:
            changed = any([self._put_behind(state) for state in range(len(self.table.nexts))])

    def _put_behind(self, state):
        price = self.prices[-1][state]
        if price is None:
            return False
        return any([self._set(other, price + more, (state, ("put", letter))) for letter, other, more
                    in zip(self.table.letters, self.table.nexts[state], self.puts) if more is not None])

    def best_end(self):
        """Tell the first end of the least price behind all things, None if there is none."""
        best = None
        for state in self.table.ends:
            price = self.prices[-1][state]
            if price is not None and (best is None or price < self.prices[-1][best]):
                best = state
        return best

    def steps_to(self, state):
        """List the steps of the least price to a state behind all things."""
        found = []
        at = len(self.prices) - 1
        while self.lasts[at][state] is not None:
            state, step = self.lasts[at][state]
            found.append(step)
            if step[0] != "put":
                at -= 1
        return tuple(found[::-1])


def row_prices(table, drops, puts, keeps):
    return tuple([tuple(prices) for prices in PriceWalk(table, drops, puts, keeps).prices])


def row_cost(table, drops, puts, keeps):
    walk = PriceWalk(table, drops, puts, keeps)
    state = walk.best_end()
    return None if state is None else walk.prices[-1][state]


def row_steps(table, drops, puts, keeps):
    walk = PriceWalk(table, drops, puts, keeps)
    state = walk.best_end()
    return None if state is None else walk.steps_to(state)


def check_prices(table, drops, puts, keeps, value):
    if not isinstance(value, tuple) or len(value) != len(drops) + 1:
        return False
    if not all([_are_prices(prices, len(table.nexts)) for prices in value]) or value[0][0] != 0:
        return False
    for at, prices in enumerate(value):
        for state, price in enumerate(prices):
            if price is None:
                continue
            if not _hold(table.nexts[state], price, puts, prices):
                return False
            if at < len(drops) and not _holds(price + drops[at], value[at + 1][state]):
                return False
            if at < len(drops) and not _hold(table.nexts[state], price, keeps[at], value[at + 1]):
                return False
    return True


def _are_prices(value, many):
    """Tell whether any value is a tuple of so many numbers or None."""
    if not isinstance(value, tuple) or len(value) != many:
        return False
    return all([price is None or is_number(price) for price in value])


def _hold(after, price, costs, prices):
    """Tell whether no step that reads a letter leads from a price to one that is too great."""
    return all([cost is None or _holds(price + cost, prices[other]) for other, cost in zip(after, costs)])


def _holds(most, price):
    return price is not None and price <= most
