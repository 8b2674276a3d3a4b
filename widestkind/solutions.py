"""The kinds of all points of a whole, as they come of the facts."""
from widestkind.equations import fresh_names
from widestkind.kindwalks import first_uses
from widestkind.powers import names_of
from widestkind.shapes import is_row


def keys_of(whole):
    """The dict from the keys of a solution to the uses of what they stand for: `("kind", ())`, or as for names."""
    found = {}
    for knot, (_, _, part) in enumerate(whole.knots()):
        if is_row(part):
            continue
        found[(knot, "kind")] = ("kind", ())
        if part[0] in ("fn", "rec"):
            found[(knot, "bound")] = ("kind", ())
        if part[0] == "rec":
            found[(knot, "self")] = ("kind", ())
        if part[0] == "told":
            for name, use in first_uses([part[2]]).items():
                found[(knot, name)] = use
    return found


class Builder:
    """Makes kinds, rows and measures of what joins tell.

    `called` has for leaders the names that they get: kind names for those of which nothing is known, measure names
    for nums in no equation, and row names for `("row", leader)` where a row goes on.
    """

    def __init__(self, whole, joins, measures):
        self.joins = joins
        self.measures = measures
        self.arities = {name: len(whole.book.parameters(name)) for name in whole.book.kinds()}
        self.rows = {}
        self.made = {}
        self.called = {}

    def put_steps(self):
        """Puts in the steps that heads have, also where no fact leads there."""
        for leader in range(len(self.joins.points)):
            head = self.joins.heads[leader]
            if head is None or self.joins.leader(leader) != leader:
                continue
            steps = list(range(self.arities.get(head[1], 0)))
            if head[1] == "fn":
                steps = ["from", "to"]
            for step in steps:
                if step not in self.joins.steps[leader]:
                    self.joins.behind(head[0], step)

    def find_rows(self):
        """Finds the leaders whose rows go on in the same way: the least of them, or None for those that do not."""
        for start in range(len(self.joins.points)):
            if self.joins.leader(start) != start or start in self.rows:
                continue
            found = [start]
            known = {start: True}
            closed = False
            while found:
                leader = found.pop()
                closed = closed or self.joins.onlys[leader] != []
                for one, other, _, _ in self.joins.links[leader]:
                    for node in (self.joins.leader(one), self.joins.leader(other)):
                        if node not in known:
                            known[node] = True
                            found.append(node)
            for leader in known:
                self.rows[leader] = None if closed else start

    def put_names(self):
        """Gives names to all that need one, other ones than those in the measures."""
        wanted = []
        for leader in range(len(self.joins.points)):
            if self.joins.leader(leader) != leader:
                continue
            head = self.joins.heads[leader]
            if head is None or head[1] == "num":
                wanted.append(leader)
            is_row_head = head is not None and head[1] in ("record", "variant")
            if self.rows[leader] == leader and (is_row_head or self.joins.links[leader]):
                wanted.append(("row", leader))
        known = {name: True for name in names_of(list(self.measures.values()))}
        for key, name in zip(wanted, fresh_names(len(wanted), known)):
            self.called[key] = name

    def measure(self, leader):
        """The measure of a num or of a measure name."""
        told = self.measures.get("'" + str(leader))
        return ((self.called[leader], 1),) if told is None else told

    def row(self, leader):
        """The entries of a row, and the name with which it goes on, or None."""
        entries = {}
        for step, node in self.joins.steps[leader].items():
            label = step[1:] if step[0] == "." else step
            entries[label] = self.made[self.joins.leader(node)]
        rest = self.rows[leader]
        found = tuple([(label, entries[label]) for label in sorted(entries)])
        return found, None if rest is None else self.called[("row", rest)]

    def _made(self, leader):
        """The kind of a leader, where the kinds within it are made."""
        head = self.joins.heads[leader]
        if head is None:
            return ("name", self.called[leader])
        if head[1] == "num":
            return ("num", self.measure(leader))
        if head[1] in ("record", "variant"):
            entries, rest = self.row(leader)
            return (head[1], entries, rest)
        steps = self.joins.steps[leader]
        if head[1] == "fn":
            return ("fn", self.made[self.joins.leader(steps["from"])], self.made[self.joins.leader(steps["to"])])
        inner = [self.made[self.joins.leader(steps[index])] for index in range(self.arities[head[1]])]
        return ("own", head[1], tuple(inner))

    def make_kinds(self):
        """Makes the kinds of all leaders, those within a kind ahead of it."""
        waiting = [(leader, False) for leader in range(len(self.joins.points)) if self.joins.leader(leader) == leader]
        while waiting:
            leader, ready = waiting.pop()
            if leader in self.made:
                continue
            inner = [self.joins.leader(node) for node in self.joins.steps[leader].values()]
            if ready or not inner:
                self.made[leader] = self._made(leader)
            else:
                waiting.append((leader, True))
                waiting.extend([(one, False) for one in inner])


def solution_of(whole, joins, measures):
    """The dict from all points without steps to their kinds, rows and measures."""
    keys = keys_of(whole)
    nodes = {key: joins.node((key[0], key[1], ())) for key in keys}
    builder = Builder(whole, joins, measures)
    builder.put_steps()
    builder.find_rows()
    builder.put_names()
    builder.make_kinds()
    found = {}
    for key, use in keys.items():
        leader = joins.leader(nodes[key])
        if use[0] == "kind":
            found[key] = builder.made[leader]
        elif use[0] == "measure":
            found[key] = builder.measure(leader)
        else:
            found[key] = builder.row(leader)
    return found
