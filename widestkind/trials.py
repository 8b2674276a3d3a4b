"""Whether lots of places of a whole fit together, asked many times. A lot is an integer with a bit for each place."""
from widestkind.facts import facts_of
from widestkind.facttables import FactTable
from widestkind.joins import Joins
from widestkind.paperjudge import told_facts
from widestkind.papers import paper_end
from widestkind.proofs import Proof
from widestkind.solving import settled


class Trials:
    """The places of a whole, and the places that must be in a lot that tells the facts of a knot.

    `joined` are the Joins of all facts. The facts by themselves are looked at when a lot is asked for that has not all
    places.
    """

    def __init__(self, whole):
        self.ground = whole.laid()
        self.joined, measures = settled(whole)
        self.spots = whole.places()
        self.bits = {place: 1 << index for index, place in enumerate(self.spots)}
        self.needs = []
        for place, use, _ in self.ground.rows:
            self.needs.append(self.bits[place] | (0 if use is None else self.needs[use]))
        self.facts = None
        self.table = None
        self.asked = {self.all_bits(): measures is not None}
        self.clashes = {}

    def _look_at_facts(self):
        """Puts in the facts of all knots."""
        if self.facts is None:
            self.facts = [facts_of(self.ground, knot) for knot in range(self.ground.many())]
            self.table = FactTable(self.facts)

    def all_bits(self):
        """The lot of all places."""
        return (1 << len(self.spots)) - 1

    def lot(self, places):
        """The lot of a list of places."""
        found = 0
        for place in places:
            found |= self.bits[place]
        return found

    def places_of(self, lot):
        """The ascending list of the places of a lot."""
        return [place for place in self.spots if lot & self.bits[place]]

    def _knots_told(self, lot):
        """The list of the knots whose facts a lot tells."""
        return [knot for knot, needs in enumerate(self.needs) if needs & lot == needs]

    def fits(self, lot):
        """Whether a lot fits."""
        if lot not in self.asked:
            self._look_at_facts()
            self.asked[lot] = self.table.fits(self._knots_told(lot))
        return self.asked[lot]

    def _joins(self, lot):
        """The Joins of the facts that a lot tells, up to the first one that cannot be true with those ahead of it."""
        if lot == self.all_bits():
            return self.joined
        self._look_at_facts()
        joins = Joins()
        for knot in self._knots_told(lot):
            joins.tell(knot, self.facts[knot])
            if joins.wrong is not None:
                break
        return joins

    def clash_in(self, lot):
        """The lot of the places of a clash within a lot that does not fit."""
        if lot not in self.clashes:
            proof = Proof(self._joins(lot))
            end = paper_end(proof)
            told = 0
            for knot, _ in told_facts((proof.found, end)):
                told |= self.needs[knot]
            self.clashes[lot] = told
        return self.clashes[lot]

    def refuter_in(self, lot):
        """What is left of a lot that does not fit if places are left out that are not needed, the greatest first."""
        clash = self.clash_in(lot)
        for place in self.spots[::-1]:
            bit = self.bits[place]
            if lot & bit and not clash & bit:
                lot -= bit
            elif lot & bit and not self.fits(lot - bit):
                lot -= bit
                clash = self.clash_in(lot)
        return lot

    def some_refuter(self, lot):
        """A refuter within a lot, or None if the lot fits."""
        return None if self.fits(lot) else self.refuter_in(lot)


def trials_of(whole):
    """The Trials of a whole, which are kept with it."""
    found = whole.kept("trials")
    return whole.keep("trials", Trials(whole)) if found is None else found
