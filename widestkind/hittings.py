"""Least lots that meet other lots. A lot is an integer with a bit for each of its members."""


def bits_of(lot):
    """The list of the integers with one of the bits of a lot each, in ascending order."""
    found = []
    while lot:
        bit = lot & -lot
        found.append(bit)
        lot -= bit
    return found


def met_too(hits, lot):
    """The least lots that meet a further lot and all those that `hits`, a list of least lots, meet."""
    meeting = [hit for hit in hits if hit & lot]
    found = list(meeting)
    for hit in hits:
        if hit & lot:
            continue
        for bit in bits_of(lot):
            wider = hit | bit
            if not any([one & wider == one for one in meeting]):
                found.append(wider)
    return found


def least_and_hits(everything, least_in):
    """The tuple of the lists of all least lots of a sort within a lot, and of all least lots that meet all of them.

    `least_in` tells one of the sort within a lot, or None. The least lots that meet those that are known are all of
    them if none of the sort lies among all others in each case; otherwise a further one lies there.
    """
    found = []
    hits = [0]
    at = 0
    while at < len(hits):
        lot = least_in(everything - hits[at])
        if lot is None:
            at += 1
        else:
            found.append(lot)
            hits = met_too(hits, lot)
            at = 0
    return found, hits


class Cheapest:
    """The search for the lot of the least weight that meets all of some lots.

    Of several ones the one with the fewest members, and of these the first one in the order of their lists, counts.
    `weights` has what each bit weighs. `best` is the least key that was found, and `found` its lot.
    """

    def __init__(self, lots, weights):
        self.chosen = lots
        self.weights = weights
        self.best = None
        self.found = None

    def _rank(self, lot):
        """The key by which lots are compared: the weight, the number of members, and these, by their numbers."""
        bits = bits_of(lot)
        return sum([self.weights[bit] for bit in bits]), len(bits), tuple([bit.bit_length() for bit in bits])

    def _least_more(self, left, barred):
        """What must be added at least, by weight and by number, to meet lots that have no members in common."""
        weight = 0
        many = 0
        seen = 0
        for lot in left:
            if lot & seen:
                continue
            seen |= lot
            weight += min([self.weights[bit] for bit in bits_of(lot & ~barred)])
            many += 1
        return weight, many

    def search(self):
        """Goes through the lots that meet all of them, and leaves out those that cannot be better."""
        waiting = [(0, 0)]
        while waiting:
            lot, barred = waiting.pop()
            left = [one for one in self.chosen if not one & lot]
            if any([one & ~barred == 0 for one in left]):
                continue
            rank = self._rank(lot)
            if not left:
                if self.best is None or rank < self.best:
                    self.best = rank
                    self.found = lot
                continue
            weight, many = self._least_more(left, barred)
            if self.best is not None and (rank[0] + weight, rank[1] + many) > self.best[:2]:
                continue
            follows = []
            for bit in bits_of(shortest_lot(left, barred) & ~barred):
                follows.append((lot | bit, barred))
                barred |= bit
            waiting.extend(follows[::-1])


def shortest_lot(lots, barred):
    """The first lot with the fewest members that are not barred."""
    return min([(len(bits_of(lot & ~barred)), index, lot) for index, lot in enumerate(lots)])[2]


def cheapest_hit(lots, weights):
    """The lot of the least weight that meets all of some lots, the first one by the order that Cheapest tells."""
    search = Cheapest(lots, weights)
    search.search()
    return search.found
