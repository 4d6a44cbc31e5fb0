"""Graphs of needs: which name depends on which, along which paths and cycles."""

from cycleready.errors import NoNeed
from cycleready.words import bare_word, check_name, is_name


class Needs:
    """A set of needs, which are pairs of a source and a target."""

    def __init__(self):
        # For each source, the sorted list of its targets; a name without targets is no key.
        self.needed = {}

    @classmethod
    def of(cls, *pairs):
        """Return a graph with the needs in the pairs."""
        graph = cls()
        for source, target in pairs:
            graph.record(source, target)
        return graph

    def __eq__(self, other):
        return isinstance(other, Needs) and self.needed == other.needed

    def __len__(self):
        return len(self.pairs())

    def __repr__(self):
        return f"Needs({self.pairs()!r})"

    def __str__(self):
        return " ".join([f"{source}:{target}" for source, target in self.pairs()])

    def is_need(self, source, target):
        """Return whether two values are the source and the target of a need."""
        return is_name(target) and target in self.targets(source)

    def record(self, source, target):
        """Add a need and return whether it is new."""
        check_name(source)
        check_name(target)
        if self.is_need(source, target):
            return False
        self.needed[bare_word(source)] = sorted(self.targets(source) + [bare_word(target)])
        return True

    def delete(self, source, target):
        """Delete a need."""
        if not self.is_need(source, target):
            raise NoNeed(source, target)
        self.needed[source].remove(target)
        if len(self.needed[source]) == 0:
            del self.needed[source]

    def delete_all(self, source):
        """Delete all needs with this source and return how many there were."""
        count = len(self.targets(source))
        if count > 0:
            del self.needed[source]
        return count

    def pairs(self):
        """Return the sorted list of all needs."""
        return [(source, target) for source in sorted(self.needed) for target in self.needed[source]]

    def targets(self, name):
        """Return the sorted list of the targets of a source."""
        return list(self.needed.get(name, ())) if is_name(name) else []

    def sources(self, name):
        """Return the sorted list of the sources of a target."""
        return [source for source in sorted(self.needed) if self.is_need(source, name)]

    def shortest_paths(self, name):
        """Return, for each name in the closure, the first in sorted order of the shortest paths to it.

        Shorter paths come first, equally long ones in sorted order.
        """
        found = []
        reached = {name: True}
        latest = [[bare_word(name)]]
        while len(latest) > 0:
            found += latest
            longer = []
            # These paths and the targets are in sorted order, so the first path that reaches a name is the right one.
            for path in latest:
                for target in self.targets(path[-1]):
                    if target not in reached:
                        reached[target] = True
                        longer.append(path + [target])
            latest = longer
        return found

    def depends(self, one, other):
        """Return whether one name depends on the other."""
        check_name(one)
        check_name(other)
        return other in self.closure(one)

    def closure(self, name):
        """Return the sorted list of all names that a name depends on."""
        check_name(name)
        return sorted([path[-1] for path in self.shortest_paths(name)])

    def group(self, name):
        """Return the sorted list of all names that a name depends on and that depend on it."""
        return [other for other in self.closure(name) if self.depends(other, name)]

    def path(self, one, other):
        """Return the first in sorted order of the shortest paths from one name to the other, or None."""
        check_name(one)
        check_name(other)
        for path in self.shortest_paths(one):
            if path[-1] == other:
                return path
        return None

    def cycle_through(self, name):
        """Return the first in sorted order of the shortest cycles that begin with a name, or None."""
        check_name(name)
        for path in self.shortest_paths(name):
            if self.is_need(path[-1], name):
                return path
        return None

    def is_acyclic(self):
        """Return whether there is no cycle."""
        return all([self.cycle_through(source) is None for source in self.needed])

    def clone(self):
        """Return an independent copy."""
        graph = Needs()
        graph.needed = {source: list(self.needed[source]) for source in self.needed}
        return graph
