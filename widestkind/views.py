"""The kinds that joins tell: what is named once for all, and the kinds as they are seen with some measures."""
from widestkind.equations import fresh_names


class Naming:
    """What all views of joins have in common.

    `rows` has for leaders the least of those whose rows go on in the same way, or None for rows that do not go on.
    `called` has the names of leaders: kind names for those of which nothing is known, measure names for nums in no
    equation; and row names for `("row", leader)`. `known` has all names that are taken, and takes in those here.
    """

    def __init__(self, whole, joins, known):
        self.joins = joins
        self.arities = {name: len(whole.book.parameters(name)) for name in whole.book.kinds()}
        self.rows = {}
        self.called = {}
        self.known = known
        self._put_steps()
        self._find_rows()
        self._put_names()

    def _put_steps(self):
        """Puts in the steps that heads have, also where no fact leads there."""
        for leader in self.leaders_now():
            head = self.joins.heads.get(leader)
            if head is None:
                continue
            steps = list(range(self.arities.get(head[1], 0)))
            if head[1] == "fn":
                steps = ["from", "to"]
            for step in steps:
                if step not in self.joins.steps_at(leader):
                    self.joins.behind(head[0], step)

    def leaders_now(self):
        """The list of the leaders."""
        return [node for node, leader in enumerate(self.joins.leaders) if leader == node]

    def _linked(self, start):
        """The dict of True for the leaders whose rows go on as that of one does."""
        found = {start: True}
        waiting = [start]
        while waiting:
            for one, other, _, _ in self.joins.links.get(waiting.pop(), []):
                for leader in (self.joins.leaders[one], self.joins.leaders[other]):
                    if leader not in found:
                        found[leader] = True
                        waiting.append(leader)
        return found

    def _find_rows(self):
        for start in self.leaders_now():
            if start not in self.joins.links:
                self.rows[start] = None if start in self.joins.onlys else start
            elif start not in self.rows:
                found = self._linked(start)
                closed = any([leader in self.joins.onlys for leader in found])
                for leader in found:
                    self.rows[leader] = None if closed else start

    def _put_names(self):
        wanted = []
        for leader in self.leaders_now():
            head = self.joins.heads.get(leader)
            if head is None or head[1] == "num":
                wanted.append(leader)
            is_row_head = head is not None and head[1] in ("record", "variant")
            if self.rows[leader] == leader and (is_row_head or leader in self.joins.links):
                wanted.append(("row", leader))
        for key, name in zip(wanted, self.new_names(len(wanted))):
            self.called[key] = name

    def new_names(self, many):
        """So many names that are not taken, and are taken now."""
        names = fresh_names(many, self.known)
        for name in names:
            self.known[name] = True
        return names


class View:
    """The kinds of leaders, with the measures of a dict from `'` and their numbers."""

    def __init__(self, naming, measures):
        self.naming = naming
        self.joins = naming.joins
        self.measures = measures
        self.made = {}

    def measure(self, leader):
        """The measure of a num or of a measure name."""
        told = self.measures.get("'" + str(leader))
        return ((self.naming.called[leader], 1),) if told is None else told

    def _row(self, leader):
        """The entries of a row whose kinds are made, and the name with which it goes on, or None."""
        entries = {}
        for step, node in self.joins.steps_at(leader).items():
            label = step[1:] if step[0] == "." else step
            entries[label] = self.made[self.joins.leaders[node]]
        rest = self.naming.rows[leader]
        found = tuple([(label, entries[label]) for label in sorted(entries)])
        return found, None if rest is None else self.naming.called[("row", rest)]

    def _kind(self, leader):
        """The kind of a leader, where the kinds within it are made; a row of a name is told without a head."""
        head = self.joins.heads.get(leader)
        steps = self.joins.steps_at(leader)
        if head is None:
            return self._row(leader) if steps or leader in self.joins.links else ("name", self.naming.called[leader])
        if head[1] == "num":
            return ("num", self.measure(leader))
        if head[1] in ("record", "variant"):
            entries, rest = self._row(leader)
            return (head[1], entries, rest)
        if head[1] == "fn":
            one, other = self.joins.leaders[steps["from"]], self.joins.leaders[steps["to"]]
            return ("fn", self.made[one], self.made[other])
        inner = [self.made[self.joins.leaders[steps[index]]] for index in range(self.naming.arities[head[1]])]
        return ("own", head[1], tuple(inner))

    def kind(self, start):
        """The kind of a leader, or the row of one that stands for a row name."""
        waiting = [(start, False)]
        while waiting:
            leader, ready = waiting.pop()
            if leader in self.made:
                continue
            steps = self.joins.steps_at(leader)
            if ready or not steps:
                self.made[leader] = self._kind(leader)
            else:
                waiting.append((leader, True))
                waiting.extend([(self.joins.leaders[node], False) for node in steps.values()])
        return self.made[start]

    def kind_at(self, point):
        """The kind at a point that has a node."""
        return self.kind(self.joins.leaders[self.joins.node(point)])
