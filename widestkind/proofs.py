"""Clash papers: what is read off joins that show that places do not fit."""
from widestkind.facts import behind
from widestkind.measures import measure_paper
from widestkind.ratios import Ratio


class Proof:
    """The steps of a paper. `known` has the indexes of those that lead from a node to another one."""

    def __init__(self, joins):
        self.joins = joins
        self.found = []
        self.known = {}

    def put(self, one, other, reason):
        """A further step between two points; returns its index."""
        self.found.append((one, other, reason))
        return len(self.found) - 1

    def swap(self, index):
        """The step that leads back."""
        one, other, _ = self.found[index]
        return self.put(other, one, ("swap", index))

    def chain(self, first, second):
        """The step that leads the way of two steps; the first one may be None."""
        if first is None:
            return second
        return self.put(self.found[first][0], self.found[second][1], ("chain", first, second))

    def behind(self, index, step):
        """The step between the points with one step more."""
        one, other, _ = self.found[index]
        return self.put(behind(one, step), behind(other, step), ("part", index, step))

    def way(self, one, other):
        """The list of the roads from a node to another one that is the same: tuples of two nodes and a reason."""
        behind_one = {one: 0}
        up = []
        node = one
        while node in self.joins.roads:
            following, reason = self.joins.road(node)
            up.append((node, following, reason))
            node = following
            behind_one[node] = len(up)
        down = []
        node = other
        while node not in behind_one:
            following, reason = self.joins.road(node)
            down.append((following, node, ("back", reason)))
            node = following
        return up[:behind_one[node]] + down[::-1]

    def needed(self, reason):
        """The pair of nodes of which must be shown that they are the same for a reason to hold, or None."""
        while reason[0] in ("turned", "back"):
            reason = reason[1]
        return (reason[1], reason[2]) if reason[0] == "part" else None

    def lead(self, one, other):
        """The index of the step from the point of a node to that of another one that is the same."""
        waiting = [(one, other)]
        while waiting:
            pair = waiting[-1]
            if pair in self.known:
                waiting.pop()
                continue
            way = self.way(pair[0], pair[1])
            pairs = [self.needed(reason) for _, _, reason in way]
            missing = [inner for inner in pairs if inner is not None and inner not in self.known]
            if missing:
                waiting.extend(missing)
                continue
            self.known[pair] = self._put_way(pair, way)
        return self.known[(one, other)]

    def _put_way(self, pair, way):
        """The index of the step that leads along some roads."""
        if not way:
            point = self.joins.points[pair[0]]
            return self.put(point, point, ("one",))
        index = None
        for one, other, reason in way:
            index = self.chain(index, self._put_road(one, other, reason))
        return index

    def _put_road(self, one, other, reason):
        """The index of the step along a road."""
        if reason[0] in ("turned", "back"):
            return self.swap(self._put_road(other, one, reason[1]))
        if reason[0] == "part":
            return self.behind(self.known[(reason[1], reason[2])], reason[3])
        if reason[0] in ("but", "rest"):
            label = reason[3][1:] if reason[3][0] == "." else reason[3]
            reason = (*reason[:3], label)
        return self.put(self.joins.points[one], self.joins.points[other], reason)


def heads_end(proof, one, other):
    """The end of a paper that shows two unlike heads."""
    index = proof.lead(one[0], other[0])
    return ("heads", index, *one[2], *other[2])


def gone_end(proof, entry, node, step, fact):
    """The end of a paper that shows an entry that a row may not have."""
    joins = proof.joins
    leader = joins.leader(entry)
    told, other = [(one, told) for one, told in joins.entries if joins.leader(one) == leader][0]
    last = proof.behind(proof.lead(joins.before(entry), node), step)
    return ("gone", proof.chain(proof.lead(told, entry), last), *other, *fact)


def ring_end(proof, ring):
    """The end of a paper that shows a kind within itself."""
    joins = proof.joins
    first = joins.before(ring[0])
    index = proof.put(joins.points[ring[0]], joins.points[ring[0]], ("one",))
    for node, behind_it in zip(ring, ring[1:]):
        index = proof.chain(index, proof.lead(node, joins.before(behind_it)))
        index = proof.behind(index, joins.points[behind_it][2][-1])
    index = proof.chain(index, proof.lead(ring[-1], first))
    return ("ring", proof.swap(index))


def powers_end(proof, equations):
    """The end of a paper that shows measures that cannot be."""
    joins = proof.joins
    rows = []
    sums = {}
    for weight, (fact, factors, _) in zip(measure_paper(equations), joins.powers):
        if weight == 0:
            continue
        rows.append((weight, ("fact", *fact)))
        for node, number in factors:
            sums[node] = sums.get(node, Ratio(0)) + weight * number
    first = {}
    for node, total in sums.items():
        other = first.setdefault(joins.leader(node), node)
        if other != node and total.bottom != 1:
            rows.append((Ratio(0) - total, ("step", proof.lead(node, other))))
    return ("powers", rows)
