"""The facts of knots with numbers in the place of points, and whether some of them can be true together.

This tells no more than whether they can, so that it can be asked many times.
"""
from widestkind.facts import label_step
from widestkind.measures import solve_measures
from widestkind.powers import add_times, measure_of


class FactTable:
    """Facts of knots. By knots: `seats`, tuples of a node, a step and the node with this step more; `pairs` of nodes
    that are the same; `heads`, `onlys`, `links` and `powers`, as the facts tell them of nodes.
    """

    def __init__(self, facts):
        self.nodes = {}
        self.above = []
        self.seats = []
        self.pairs = []
        self.heads = []
        self.onlys = []
        self.links = []
        self.powers = []
        for told in facts:
            self._put(told)

    def _node(self, point):
        """The node of a new point, those on the way to it included."""
        knot, what, way = point
        seat = None
        if way:
            above = (knot, what, way[:-1])
            seat = (self.nodes[above] if above in self.nodes else self._node(above), way[-1])
        found = len(self.above)
        self.nodes[point] = found
        self.above.append(seat)
        return found

    def _put(self, told):
        """Puts in the facts of the next knot."""
        pairs, heads, onlys, links, powers = [], [], [], [], []
        seats = {}
        for what in told:
            head = what[0]
            if head == "same":
                pairs.append((self._seated(what[1], seats), self._seated(what[2], seats)))
            elif head == "head":
                heads.append((self._seated(what[1], seats), what[2]))
            elif head == "in":
                knot, root, way = what[1]
                self._seated((knot, root, (*way, label_step(what[2]))), seats)
            elif head == "only":
                onlys.append((self._seated(what[1], seats), {label_step(label): True for label in what[2]}))
            elif head == "power":
                powers.append(([(self._seated(point, seats), number) for point, number in what[1]], what[2]))
            else:
                one, other, labels = (what[1], what[2], (what[3],)) if head == "but" else (what[1], what[3], what[2])
                steps = {label_step(label): True for label in labels}
                links.append((self._seated(one, seats), self._seated(other, seats), steps))
        self.seats.append(list(seats.values()))
        self.pairs.append(pairs)
        self.heads.append(heads)
        self.onlys.append(onlys)
        self.links.append(links)
        self.powers.append(powers)

    def _seated(self, point, seats):
        """The node of a point; notes the seats on the way to it by their nodes."""
        found = self.nodes.get(point)
        if found is None:
            found = self._node(point)
        node = found
        while self.above[node] is not None and node not in seats:
            above, step = self.above[node]
            seats[node] = (above, step, node)
            node = above
        return found

    def fits(self, knots):
        """Whether the facts of some knots can be true together."""
        trial = Trial(len(self.above))
        for knot in knots:
            trial.seat(self.seats[knot])
            trial.waiting.extend(self.pairs[knot])
        trial.settle_all()
        links = [link for knot in knots for link in self.links[knot]]
        if links:
            trial.hand_on(links)
        heads = [head for knot in knots for head in self.heads[knot]]
        onlys = [only for knot in knots for only in self.onlys[knot]]
        if not trial.has_heads(heads) or not trial.has_only(onlys) or trial.has_ring():
            return False
        return trial.has_measures([power for knot in knots for power in self.powers[knot]])


class Trial:
    """Nodes, of which some have become the same: `leaders` lead from each to the one that stands for all of them.

    `steps` has for these the dicts from steps to nodes. `waiting` are pairs that are still to become the same.
    """

    def __init__(self, many):
        self.leaders = list(range(many))
        self.steps = {}
        self.waiting = []

    def leader(self, node):
        """The node that stands for all that are the same."""
        leaders = self.leaders
        while leaders[node] != node:
            leaders[node] = leaders[leaders[node]]
            node = leaders[node]
        return node

    def seat(self, seats):
        """Puts in nodes behind others."""
        for above, step, node in seats:
            steps = self.steps.setdefault(above, {})
            steps[step] = node

    def settle_all(self):
        """Lets what waits become the same, and all that is behind it by the same steps."""
        leaders, all_steps, waiting = self.leaders, self.steps, self.waiting
        while waiting:
            one, other = waiting.pop()
            while leaders[one] != one:
                leaders[one] = leaders[leaders[one]]
                one = leaders[one]
            while leaders[other] != other:
                leaders[other] = leaders[leaders[other]]
                other = leaders[other]
            if one == other:
                continue
            if other not in all_steps:
                leaders[other] = one
            elif one not in all_steps:
                leaders[one] = other
            else:
                leaders[other] = one
                steps = all_steps[one]
                for step, node in all_steps.pop(other).items():
                    if step in steps:
                        waiting.append((node, steps[step]))
                    else:
                        steps[step] = node

    def hand_on(self, links):
        """Lets rows that are the same but for some labels have the same entries."""
        going = True
        while going:
            going = False
            for one, other, labels in links:
                for first, second in ((one, other), (other, one)):
                    going = self._hand_over(self.leader(first), self.leader(second), labels) or going
            self.settle_all()

    def _hand_over(self, one, other, labels):
        """Gives the second of two nodes all entries of the first one but some; returns whether one was new there."""
        found = False
        steps = self.steps.setdefault(other, {})
        for step, node in list(self.steps.get(one, {}).items()):
            if step in labels:
                continue
            if step not in steps:
                steps[step] = node
                found = True
            elif self.leader(steps[step]) != self.leader(node):
                self.waiting.append((steps[step], node))
                found = True
        return found

    def has_heads(self, heads):
        """Whether no node has two unlike heads."""
        found = {}
        for node, head in heads:
            if found.setdefault(self.leader(node), head) != head:
                return False
        return True

    def has_only(self, onlys):
        """Whether no node has an entry that it may not have."""
        for node, labels in onlys:
            for step in self.steps.get(self.leader(node), {}):
                if step not in labels:
                    return False
        return True

    def has_ring(self):
        """Whether some node is within itself."""
        many = {}
        for steps in self.steps.values():
            for node in steps.values():
                inner = self.leader(node)
                many[inner] = many.get(inner, 0) + 1
        waiting = [node for node in self.steps if node not in many]
        done = 0
        while waiting:
            done += 1
            for node in self.steps[waiting.pop()].values():
                inner = self.leader(node)
                many[inner] -= 1
                if many[inner] == 0 and inner in self.steps:
                    waiting.append(inner)
        return done < len(self.steps)

    def has_measures(self, powers):
        """Whether there are measures for which power facts are true; where none is written, no measure is enough."""
        if not any([measure for _, measure in powers]):
            return True
        equations = []
        for factors, measure in powers:
            total = {factor: -number for factor, number in measure}
            for node, number in factors:
                add_times(total, {"'" + str(self.leader(node)): number}, 1)
            equations.append(measure_of(total))
        return solve_measures(equations) is not None
