"""Points that come to be the same by facts, with what each joining came of.

A node stands for a point. Nodes that are the same have a common leader. A road from a node to another one tells of
what it came that they are the same: so that all that is told of leaders can be told of points again.
"""
from widestkind.facts import label_step


class Joins:
    """Nodes, and what is known of them.

    By nodes: `points`; `leaders`; `roads`, the tuple of the next node and the reason, or None. By leaders: `members`,
    the nodes that have it; `steps`, the dict from steps to nodes whose points are those of some node with this step
    more; `heads`, the tuple of a node, a head and its fact, or None; `onlys`, tuples of a node, labels and their fact;
    `links`, tuples of two nodes whose rows are the same but for some labels, these labels, and the reason; the latter
    two are dicts of those that have some. A fact is a tuple of a knot and an index. `wrong` is what cannot be, or
    None; `changed` are leaders whose entries are still to be looked at.
    """

    def __init__(self):
        self.points = []
        self.nodes = {}
        self.leaders = []
        self.members = []
        self.roads = []
        self.steps = []
        self.heads = []
        self.onlys = {}
        self.links = {}
        self.handed = {}
        self.entries = []
        self.powers = []
        self.wrong = None
        self.waiting = []
        self.changed = []

    def _new_node(self, point):
        node = len(self.points)
        self.points.append(point)
        self.nodes[point] = node
        self.leaders.append(node)
        self.members.append([node])
        self.roads.append(None)
        self.steps.append({})
        self.heads.append(None)
        return node

    def leader(self, node):
        """The node that stands for all that are the same."""
        return self.leaders[node]

    def node(self, point):
        """The node of a point, new ones on the way to it included."""
        if point in self.nodes:
            return self.nodes[point]
        root = (point[0], point[1], ())
        node = self.nodes[root] if root in self.nodes else self._new_node(root)
        for step in point[2]:
            node = self.behind(node, step)
        return node

    def behind(self, node, step):
        """The node of a point with one step more."""
        knot, what, way = self.points[node]
        point = (knot, what, (*way, step))
        if point in self.nodes:
            return self.nodes[point]
        new = self._new_node(point)
        leader = self.leaders[node]
        steps = self.steps[leader]
        if step in steps:
            other = steps[step]
            self.waiting.append((new, other, ("part", node, self.before(other), step)))
        else:
            steps[step] = new
            self._look_at_row(leader)
        return new

    def before(self, node):
        """The node of a point with one step less."""
        knot, what, way = self.points[node]
        return self.nodes[(knot, what, way[:-1])]

    def _look_at_row(self, leader):
        """Hands the entries of a row on to rows that have the same ones, and has them looked at."""
        if leader in self.onlys:
            self.changed.append(leader)
        if leader not in self.links:
            return
        for one, other, labels, reason in self.links[leader]:
            for step in self.steps[leader]:
                if step not in labels and (one, other, step) not in self.handed:
                    self.handed[(one, other, step)] = True
                    self.waiting.append((one, other, (*reason, step)))

    def _find_gone(self):
        """Looks for entries that rows that have changed may not have."""
        for changed in self.changed:
            leader = self.leaders[changed]
            for node, labels, fact in self.onlys[leader]:
                for step, entry in self.steps[leader].items():
                    if step not in labels and self.wrong is None:
                        self.wrong = ("gone", entry, node, step, fact)
        self.changed = []

    def tell(self, fact, what):
        """Takes in what a fact tells, and what follows from it."""
        head = what[0]
        if head == "same":
            one, other = self.node(what[1]), self.node(what[2])
            self._join(one, other, ("fact", *fact))
        elif head == "head":
            self._tell_head(self.node(what[1]), what[2], fact)
        elif head == "in":
            self.entries.append((self.behind(self.node(what[1]), label_step(what[2])), fact))
        elif head == "only":
            node = self.node(what[1])
            leader = self.leaders[node]
            self.onlys.setdefault(leader, []).append((node, {label_step(label): True for label in what[2]}, fact))
            self._look_at_row(leader)
        elif head == "power":
            self.powers.append((fact, [(self.node(point), number) for point, number in what[1]], what[2]))
        else:
            self._tell_link(what, fact)
        if self.waiting or self.changed:
            self._settle()

    def _tell_head(self, node, head, fact):
        leader = self.leaders[node]
        if self.heads[leader] is None:
            self.heads[leader] = (node, head, fact)
        elif self.heads[leader][1] != head and self.wrong is None:
            self.wrong = ("heads", self.heads[leader], (node, head, fact))

    def _tell_link(self, what, fact):
        """Takes in that two rows are the same but for some labels."""
        if what[0] == "but":
            one, other, labels = self.node(what[1]), self.node(what[2]), (what[3],)
        else:
            one, other, labels = self.node(what[1]), self.node(what[3]), what[2]
        link = (one, other, {label_step(label): True for label in labels}, (what[0], *fact))
        for node in (one, other):
            self.links.setdefault(self.leaders[node], []).append(link)
        for node in (one, other):
            self._look_at_row(self.leaders[node])

    def _settle(self):
        """Joins what waits to be joined."""
        while self.waiting and self.wrong is None:
            one, other, reason = self.waiting.pop()
            if reason[0] in ("but", "rest"):
                step = reason[3]
                one, other = self.behind(one, step), self.behind(other, step)
            self._join(one, other, reason)
        if self.wrong is None:
            self._find_gone()

    def _join(self, one, other, reason):
        """Lets two nodes become the same."""
        into, leader = self.leaders[one], self.leaders[other]
        if into == leader:
            return
        if len(self.members[into]) < len(self.members[leader]):
            one, other, reason = other, one, turned_reason(reason)
            into, leader = leader, into
        self._turn_roads(other)
        self.roads[other] = (one, turned_reason(reason))
        for node in self.members[leader]:
            self.leaders[node] = into
        self.members[into].extend(self.members[leader])
        if self.heads[leader] is not None:
            node, head, fact = self.heads[leader]
            self._tell_head(node, head, fact)
        if leader in self.onlys:
            self.onlys.setdefault(into, []).extend(self.onlys[leader])
        if leader in self.links:
            self.links.setdefault(into, []).extend(self.links[leader])
        if self.steps[leader]:
            self._join_steps(into, leader)
        self._look_at_row(into)

    def _join_steps(self, into, leader):
        """Lets the points behind two nodes that have become the same become the same."""
        steps = self.steps[into]
        for step, node in self.steps[leader].items():
            if step in steps:
                same = steps[step]
                self.waiting.append((node, same, ("part", self.before(node), self.before(same), step)))
            else:
                steps[step] = node

    def _turn_roads(self, node):
        """Turns the roads from a node on, so that all roads of what is the same lead to it."""
        last = None
        while node is not None:
            road = self.roads[node]
            self.roads[node] = last
            if road is None:
                return
            last = (node, turned_reason(road[1]))
            node = road[0]


def turned_reason(reason):
    """The reason why the second of two nodes is the same as the first one."""
    if reason[0] == "part":
        return ("part", reason[2], reason[1], reason[3])
    if reason[0] == "turned":
        return reason[1]
    return ("turned", reason)
