"""Points that come to be the same by facts, with what each joining came of.

A node stands for a point. Nodes that are the same have a common leader. A road from a node to another one tells of
what it came that they are the same: so that all that is told of leaders can be told of points again.
"""
from widestkind.facts import label_step


class Joins:
    """Nodes, and what is known of them.

    By nodes: `points`; `leaders`; and `roads`, the dict of those that have one to the tuple of the next node, the
    reason, and whether this is one why the next node is the same as this one. By leaders, dicts of those that have
    some: `members`, the nodes that have it, if there are others than itself; `steps`, the dict from steps to nodes
    whose points are those of some node with this step more; `heads`, the tuple of a node, a head and its fact;
    `onlys`, tuples of a node, labels and their fact; `links`, tuples of two nodes whose rows are the same but for some
    labels, these labels, and the reason. A fact is a tuple of a knot and an index. `wrong` is what cannot be, or
    None; `changed` are leaders whose entries are still to be looked at.
    """

    def __init__(self):
        self.points = []
        self.nodes = {}
        self.leaders = []
        self.members = {}
        self.roads = {}
        self.steps = {}
        self.heads = {}
        self.onlys = {}
        self.links = {}
        self.handed = {}
        self.entries = []
        self.powers = []
        self.wrong = None
        self.waiting = []
        self.changed = []

    def _new_node(self, point):
        node = len(self.points)
        self.points.append(point)
        self.nodes[point] = node
        self.leaders.append(node)
        return node

    def leader(self, node):
        """The node that stands for all that are the same."""
        return self.leaders[node]

    def node(self, point):
        """The node of a point, new ones on the way to it included."""
        found = self.nodes.get(point)
        if found is not None:
            return found
        knot, what, way = point
        if way == ():
            return self._new_node(point)
        found = self.node((knot, what, ()))
        for step in way:
            found = self.behind(found, step)
        return found

    def steps_at(self, leader):
        """The dict from steps to nodes whose points are those of some node with a leader with this step more."""
        return self.steps.get(leader, {})

    def behind(self, node, step):
        """The node of a point with one step more."""
        knot, what, way = self.points[node]
        point = (knot, what, (*way, step))
        found = self.nodes.get(point)
        if found is not None:
            return found
        new = self._new_node(point)
        leader = self.leaders[node]
        if leader not in self.steps:
            self.steps[leader] = {}
        steps = self.steps[leader]
        if step in steps:
            other = steps[step]
            self.waiting.append((new, other, ("part", node, self.before(other), step)))
        else:
            steps[step] = new
            self._look_at_row(leader)
        return new

    def before(self, node):
        """The node of a point with one step less."""
        knot, what, way = self.points[node]
        return self.nodes[(knot, what, way[:-1])]

    def _look_at_row(self, leader):
        """Hands the entries of a row on to rows that have the same ones, and has them looked at."""
        if leader in self.onlys:
            self.changed.append(leader)
        if leader not in self.links:
            return
        for one, other, labels, reason in self.links[leader]:
            for step in self.steps_at(leader):
                if step not in labels and (one, other, step) not in self.handed:
                    self.handed[(one, other, step)] = True
                    self.waiting.append((one, other, (*reason, step)))

    def _find_gone(self):
        """Looks for entries that rows that have changed may not have."""
        for changed in self.changed:
            leader = self.leaders[changed]
            for node, labels, fact in self.onlys[leader]:
                for step, entry in self.steps_at(leader).items():
                    if step not in labels and self.wrong is None:
                        self.wrong = ("gone", entry, node, step, fact)
        self.changed = []

    def tell(self, knot, facts):
        """Takes in the facts of a knot, and what follows from them, up to the first one that cannot be true."""
        nodes = self.nodes
        for index, what in enumerate(facts):
            head = what[0]
            one = nodes.get(what[1])
            if one is None and head != "power":
                one = self.node(what[1])
            if head == "same":
                other = nodes.get(what[2])
                if other is None:
                    other = self.node(what[2])
                self._join(one, other, ("fact", knot, index))
            elif head == "head":
                self._tell_head(one, what[2], (knot, index))
            else:
                self._tell_other(one, what, (knot, index))
            if self.waiting or self.changed:
                self._settle()
            if self.wrong is not None:
                return

    def _tell_other(self, node, what, fact):
        """Takes in a fact of a row at a node, or of measures."""
        head = what[0]
        if head == "in":
            self.entries.append((self.behind(node, label_step(what[2])), fact))
        elif head == "only":
            leader = self.leaders[node]
            self.onlys.setdefault(leader, []).append((node, {label_step(label): True for label in what[2]}, fact))
            self._look_at_row(leader)
        elif head == "power":
            self.powers.append((fact, [(self.node(point), number) for point, number in what[1]], what[2]))
        else:
            self._tell_link(what, fact)

    def _tell_head(self, node, head, fact):
        leader = self.leaders[node]
        if leader not in self.heads:
            self.heads[leader] = (node, head, fact)
        elif self.heads[leader][1] != head and self.wrong is None:
            self.wrong = ("heads", self.heads[leader], (node, head, fact))

    def _tell_link(self, what, fact):
        """Takes in that two rows are the same but for some labels."""
        if what[0] == "but":
            one, other, labels = self.node(what[1]), self.node(what[2]), (what[3],)
        else:
            one, other, labels = self.node(what[1]), self.node(what[3]), what[2]
        link = (one, other, {label_step(label): True for label in labels}, (what[0], *fact))
        for node in (one, other):
            self.links.setdefault(self.leaders[node], []).append(link)
        for node in (one, other):
            self._look_at_row(self.leaders[node])

    def _settle(self):
        """Joins what waits to be joined."""
        while self.waiting and self.wrong is None:
            one, other, reason = self.waiting.pop()
            if reason[0] in ("but", "rest"):
                step = reason[3]
                one, other = self.behind(one, step), self.behind(other, step)
            self._join(one, other, reason)
        if self.wrong is None:
            self._find_gone()

    def _join(self, one, other, reason):
        """Lets two nodes become the same."""
        into, leader = self.leaders[one], self.leaders[other]
        if into == leader:
            return
        ours, theirs = self.members.get(into, [into]), self.members.get(leader, [leader])
        turned = len(ours) >= len(theirs)
        if not turned:
            one, other = other, one
            into, leader, ours, theirs = leader, into, theirs, ours
        if other in self.roads:
            self._turn_roads(other)
        self.roads[other] = (one, reason, turned)
        for node in theirs:
            self.leaders[node] = into
        ours.extend(theirs)
        self.members[into] = ours
        if leader in self.heads:
            node, head, fact = self.heads[leader]
            self._tell_head(node, head, fact)
        if leader in self.onlys:
            self.onlys.setdefault(into, []).extend(self.onlys[leader])
        if leader in self.links:
            self.links.setdefault(into, []).extend(self.links[leader])
        if leader in self.steps:
            self._join_steps(into, leader)
        self._look_at_row(into)

    def _join_steps(self, into, leader):
        """Lets the points behind two nodes that have become the same become the same."""
        if into not in self.steps:
            self.steps[into] = {}
        steps = self.steps[into]
        for step, node in self.steps[leader].items():
            if step in steps:
                same = steps[step]
                self.waiting.append((node, same, ("part", self.before(node), self.before(same), step)))
            else:
                steps[step] = node

    def _turn_roads(self, node):
        """Turns the roads from a node on, so that all roads of what is the same lead to it."""
        last = None
        while node is not None:
            road = self.roads.get(node)
            if last is None:
                self.roads.pop(node, None)
            else:
                self.roads[node] = last
            if road is None:
                return
            last = (node, road[1], not road[2])
            node = road[0]

    def road(self, node):
        """The tuple of the next node on the road from a node, and of the reason why they are the same."""
        other, reason, turned = self.roads[node]
        return other, turned_reason(reason) if turned else reason


def turned_reason(reason):
    """The reason why the second of two nodes is the same as the first one."""
    if reason[0] == "part":
        return ("part", reason[2], reason[1], reason[3])
    if reason[0] == "turned":
        return reason[1]
    return ("turned", reason)
