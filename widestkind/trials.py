"""Whether lots of places of a whole fit together, asked many times. A lot is an integer with a bit for each place."""
from widestkind.facts import facts_of
from widestkind.joins import Joins
from widestkind.paperjudge import told_facts
from widestkind.papers import paper_end
from widestkind.proofs import Proof
from widestkind.solving import measures_of


class Trials:
    """The places of a whole, the facts of its knots, and the places that must be in a lot that tells them."""

    def __init__(self, whole):
        self.spots = whole.places()
        self.bits = {place: 1 << index for index, place in enumerate(self.spots)}
        self.needs = []
        self.facts = []
        for knot, (place, use, _) in enumerate(whole.knots()):
            self.needs.append(self.bits[place] | (0 if use is None else self.needs[use]))
            self.facts.append(facts_of(whole.laid(), knot))
        self.asked = {}

    def all_bits(self):
        """The lot of all places."""
        return (1 << len(self.spots)) - 1

    def lot(self, places):
        """The lot of a list of places."""
        found = 0
        for place in places:
            found |= self.bits[place]
        return found

    def places_of(self, lot):
        """The ascending list of the places of a lot."""
        return [place for place in self.spots if lot & self.bits[place]]

    def _joins(self, lot):
        joins = Joins()
        for knot, needs in enumerate(self.needs):
            if needs & lot == needs:
                joins.tell(knot, self.facts[knot])
                if joins.wrong is not None:
                    return joins
        return joins

    def clash_in(self, lot):
        """The lot of the places of a clash within a lot, or None if the lot fits."""
        if lot not in self.asked:
            joins = self._joins(lot)
            self.asked[lot] = None
            if measures_of(joins) is None:
                proof = Proof(joins)
                end = paper_end(proof)
                told = 0
                for knot, _ in told_facts((proof.found, end)):
                    told |= self.needs[knot]
                self.asked[lot] = told
        return self.asked[lot]

    def fits(self, lot):
        """Whether a lot fits."""
        return self.clash_in(lot) is None

    def refuter_in(self, lot):
        """What is left of a lot that does not fit if places are left out that are not needed, the greatest first."""
        clash = self.clash_in(lot)
        for place in self.spots[::-1]:
            bit = self.bits[place]
            if lot & bit and not clash & bit:
                lot -= bit
            elif lot & bit and self.clash_in(lot - bit) is not None:
                lot -= bit
                clash = self.clash_in(lot)
        return lot
