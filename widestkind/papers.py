"""Papers that show that places do not fit together."""
from widestkind.paperjudge import is_paper, told_facts
from widestkind.proofs import Proof, gone_end, heads_end, powers_end, ring_end
from widestkind.rings import ring_of
from widestkind.solving import equations_of, joined, knots_at, measures_of, settled


def paper_end(proof):
    """The end of a paper for joins that show a clash."""
    joins = proof.joins
    if joins.wrong is not None and joins.wrong[0] == "heads":
        return heads_end(proof, joins.wrong[1], joins.wrong[2])
    if joins.wrong is not None:
        _, entry, node, step, fact = joins.wrong
        return gone_end(proof, entry, node, step, fact)
    ring = ring_of(joins)
    if ring is not None:
        return ring_end(proof, ring)
    return powers_end(proof, equations_of(joins))


def clash(whole, places=None):
    """A clash paper for places that do not fit together, or None if they do."""
    if places is None:
        joins, measures = settled(whole)
    else:
        joins = joined(whole.laid(), knots_at(whole, places))
        measures = measures_of(joins)
    if measures is not None:
        return None
    proof = Proof(joins)
    end = paper_end(proof)
    return proof.found, end


def judge_clash(whole, value):
    """Whether any value is a clash paper."""
    return is_paper(whole, value)


def paper_places(whole, paper):
    """The ascending list of the places of the facts that a paper names, and of the uses of their copies."""
    knots = whole.knots()
    found = {}
    for knot, _ in told_facts(paper):
        while knot is not None:
            place, knot, _ = knots[knot]
            found[place] = True
    return sorted(found)
