"""The ways by which nodes lead from modes to modes."""

from turnsfit.making import goes_within
from turnsfit.turnings import modes_of


class ModeWays:
    """From mode to mode, name by name."""

    def __init__(self, turning):
        self.modes = modes_of(turning)
        self.goes = {(mode, letter): _counted(goes_within(parts))
                     for mode, letter, parts in turning.rules if letter != ""}
        self.names = sorted({letter for _, letter in self.goes})

    def modes_after(self, mode, name):
        """Give each mode to which a node with a name leads from a mode the number of ways."""
        return self.goes.get((mode, name), {mode: 1})

    def counts_behind(self, counts, name):
        """Count the ways to each mode behind a node with a name, from those counted ahead of it."""
        found = {}
        for mode, count in counts.items():
            after = self.modes_after(mode, name)
            for other, ways in after.items():
                found[other] = found.get(other, 0) + count * ways
        return found

    def counts_along(self, counts, names):
        """Count ways likewise behind nodes with some names, two for any number from two on."""
        for name in names:
            behind = self.counts_behind(counts, name)
            counts = {mode: min(behind[mode], 2) for mode in behind}
        return counts

    def ways_from(self, first, kept):
        """Give each mode of a dict that is come to from a first one through such modes some names that lead there."""
        found = {first: ()}
        queue = [first]
        at = 0
        while at < len(queue):
            mode = queue[at]
            at += 1
            for name in self.names:
                for other in self.modes_after(mode, name):
                    if other in kept and other not in found:
                        found[other] = found[mode] + (name,)
                        queue.append(other)
        return found

    def growing_loop(self, one, other, kept):
        """Tell names that lead from one to one and to another mode, and from this to this; None if there are none.

        By two ways, if it is the same mode. All modes on the way are to be those of a dict.
        """
        # Three walks go side by side: the first one keeps to one, the last one
        # to the other, that between them goes over; or two walks part once.
        begin = (one, one, other, one != other)
        goal = (one, other, other, True)
        found = {begin: ()}
        queue = [begin]
        at = 0
        while at < len(queue):
            state = queue[at]
            at += 1
            for name in self.names:
                for after in self._steps(state, name, kept):
                    if after not in found:
                        found[after] = found[state] + (name,)
                        queue.append(after)
        return found.get(goal)

    def _steps(self, state, name, kept):
        """List the states behind a node with a name: three walks' modes, and whether the first two have parted."""
        after = [self._kept_after(mode, name, kept) for mode in state[:3]]
        found = {}
        for first in sorted(after[0]):
            for second in sorted(after[1]):
                for third in sorted(after[2]):
                    if state[3] or first == second:
                        found[first, second, third, state[3]] = True
                    if first != second or after[0][first] > 1:
                        found[first, second, third, True] = True
        return list(found)

    def _kept_after(self, mode, name, kept):
        """Give each mode of a dict to which a node with a name leads from a mode the number of ways."""
        after = self.modes_after(mode, name)
        return {other: after[other] for other in after if other in kept}

    def most_counts(self, first, kept):
        """List counts of ways to modes of a dict behind some names; none that is not listed is more than all listed.

        There have to be finitely many of them.
        """
        modes = [mode for mode in self.modes if mode in kept]
        best = [{first: 1}]
        queue = list(best)
        while queue:
            counts = queue.pop()
            for name in self.names:
                behind = self.counts_behind(counts, name)
                after = {mode: behind[mode] for mode in modes if mode in behind}
                if not any([_covers(known, after) for known in best]):
                    best = [known for known in best if not _covers(after, known)] + [after]
                    queue.append(after)
        return best


def _counted(modes):
    counts = {}
    for mode in modes:
        counts[mode] = counts.get(mode, 0) + 1
    return counts


def _covers(counts, others):
    """Tell whether no other count is greater."""
    return all([counts.get(mode, 0) >= count for mode, count in others.items()])
