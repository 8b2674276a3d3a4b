"""Whether lots of places of a whole fit together, asked many times. A lot is an integer with a bit for each place."""
from widestkind.facts import facts_of
from widestkind.facttables import FactTable
from widestkind.joins import Joins
from widestkind.paperjudge import told_facts
from widestkind.papers import paper_end
from widestkind.proofs import Proof


class Trials:
    """The places of a whole, the facts of its knots, and the places that must be in a lot that tells them."""

    def __init__(self, whole):
        self.spots = whole.places()
        self.bits = {place: 1 << index for index, place in enumerate(self.spots)}
        self.needs = []
        self.facts = []
        knots = whole.laid()
        for knot, (place, use, _) in enumerate(knots.rows):
            self.needs.append(self.bits[place] | (0 if use is None else self.needs[use]))
            self.facts.append(facts_of(knots, knot))
        self.table = FactTable(self.facts)
        self.asked = {}
        self.clashes = {}

    def all_bits(self):
        """The lot of all places."""
        return (1 << len(self.spots)) - 1

    def lot(self, places):
        """The lot of a list of places."""
        found = 0
        for place in places:
            found |= self.bits[place]
        return found

    def places_of(self, lot):
        """The ascending list of the places of a lot."""
        return [place for place in self.spots if lot & self.bits[place]]

    def _knots(self, lot):
        """The list of the knots whose facts a lot tells."""
        return [knot for knot, needs in enumerate(self.needs) if needs & lot == needs]

    def fits(self, lot):
        """Whether a lot fits."""
        if lot not in self.asked:
            self.asked[lot] = self.table.fits(self._knots(lot))
        return self.asked[lot]

    def clash_in(self, lot):
        """The lot of the places of a clash within a lot that does not fit."""
        if lot not in self.clashes:
            joins = Joins()
            for knot in self._knots(lot):
                joins.tell(knot, self.facts[knot])
                if joins.wrong is not None:
                    break
            proof = Proof(joins)
            end = paper_end(proof)
            told = 0
            for knot, _ in told_facts((proof.found, end)):
                told |= self.needs[knot]
            self.clashes[lot] = told
        return self.clashes[lot]

    def refuter_in(self, lot):
        """What is left of a lot that does not fit if places are left out that are not needed, the greatest first."""
        clash = self.clash_in(lot)
        for place in self.spots[::-1]:
            bit = self.bits[place]
            if lot & bit and not clash & bit:
                lot -= bit
            elif lot & bit and not self.fits(lot - bit):
                lot -= bit
                clash = self.clash_in(lot)
        return lot
