"""The least lots of places that do not fit together, and the least lots that have to be changed."""
from widestkind.errors import BadPlace, BadWeight, TooMany
from widestkind.exchanges import changed_whole, check_tree_place, tree_with_all
from widestkind.hittings import cheapest_hit, least_and_hits
from widestkind.paperjudge import is_paper
from widestkind.papers import clash, paper_places
from widestkind.trials import trials_of
from widestkind.wholes import is_place_of
from widestkind.words import is_integer

MOST_PLACES = 16
MOST_WEIGHED = 24


def refuter(whole, places=None):
    """The refuter that is left of places, all of them for None, or None if they fit."""
    if places is not None:
        for place in places:
            if not is_place_of(whole, place):
                raise BadPlace(place)
    trials = trials_of(whole)
    found = trials.some_refuter(trials.all_bits() if places is None else trials.lot(places))
    return None if found is None else trials.places_of(found)


def lot_of(trials, value):
    """The lot of any value that is a list or a tuple of different places, or None."""
    if not isinstance(value, (list, tuple)):
        return None
    found = 0
    for place in value:
        if not isinstance(place, tuple) or len(place) != 2:
            return None
        if not isinstance(place[0], str) or not is_integer(place[1]) or place not in trials.bits:
            return None
        if found & trials.bits[place]:
            return None
        found |= trials.bits[place]
    return found


def members(trials, lot):
    """The list of the lots with one place of a lot each."""
    return [trials.bits[place] for place in trials.places_of(lot)]


def is_refuter(whole, value):
    """Whether any value is a refuter of a whole."""
    trials = trials_of(whole)
    lot = lot_of(trials, value)
    if lot is None or trials.fits(lot):
        return False
    return all([trials.fits(lot - bit) for bit in members(trials, lot)])


def is_mend(whole, value):
    """Whether any value is a mend of a whole."""
    trials = trials_of(whole)
    lot = lot_of(trials, value)
    if lot is None:
        return False
    others = trials.all_bits() - lot
    return trials.fits(others) and not any([trials.fits(others + bit) for bit in members(trials, lot)])


def check_many(trials, most):
    """Raises TooMany if a whole has more places than so many."""
    if len(trials.spots) > most:
        raise TooMany(len(trials.spots))


def both(whole):
    """The Trials of a whole, the list of all refuters and that of all mends, as lots."""
    trials = trials_of(whole)
    check_many(trials, MOST_PLACES)
    lots = whole.kept("lots")
    if lots is None:
        lots = whole.keep("lots", least_and_hits(trials.all_bits(), trials.some_refuter))
    return trials, lots[0], lots[1]


def in_order(trials, lots):
    """The list of lots as lists of places, those with fewer places first, then in ascending order."""
    rows = [trials.places_of(lot) for lot in lots]
    return [row for _, row in sorted([(len(one), one) for one in rows])]


def refuters(whole):
    """The list of all refuters of a whole."""
    trials, found, _ = both(whole)
    return in_order(trials, found)


def mends(whole):
    """The list of all mends of a whole."""
    trials, _, hits = both(whole)
    return in_order(trials, hits)


def blamed(whole):
    """The ascending list of the places that stand in a refuter."""
    trials, found, _ = both(whole)
    total = 0
    for lot in found:
        total |= lot
    return trials.places_of(total)


def check_weights(whole, weights):
    """Raises what is wrong with weights."""
    if weights is None:
        return
    for place, weight in weights.items():
        if not is_place_of(whole, place):
            raise BadPlace(place)
        if not is_integer(weight) or weight < 0:
            raise BadWeight(weight)


def weight_of(weights, place):
    """What a place weighs."""
    return 1 if weights is None else weights.get(place, 1)


def cheapest(whole, weights):
    """The Trials of a whole, some refuters, and the first mend of the least weight, as lots.

    The cheapest lot that meets some refuters is a mend if all other places fit; otherwise these have further ones.
    """
    check_weights(whole, weights)
    trials = trials_of(whole)
    check_many(trials, MOST_WEIGHED)
    table = {trials.bits[place]: weight_of(weights, place) for place in trials.spots}
    found = []
    while True:
        hit = cheapest_hit(found, table)
        others = trials.all_bits() - hit
        if trials.fits(others):
            return trials, found, hit
        while not trials.fits(others):
            lot = trials.refuter_in(others)
            found.append(lot)
            others -= lot


def cheapest_mend(whole, weights=None):
    """The tuple of the least weight of a mend, and of the first mend that weighs this."""
    trials, _, hit = cheapest(whole, weights)
    mend = trials.places_of(hit)
    return sum([weight_of(weights, place) for place in mend]), mend


class PaperMaker:
    """Makes a mend paper out of refuters; `made` has those for lots of places that are taken."""

    def __init__(self, whole, trials, lots, weights, bound):
        self.whole = whole
        self.trials = trials
        self.known = lots
        self.weights = weights
        self.bound = bound
        self.clashes = {}
        self.made = {}

    def _clash(self, taken):
        """A clash paper without places that are taken, with the tuple of its places."""
        apart = [(len(self.trials.places_of(lot)), lot) for lot in self.known if not lot & taken]
        if apart:
            lot = min(apart)[1]
        else:
            lot = self.trials.refuter_in(self.trials.all_bits() - taken)
            self.known.append(lot)
        if lot not in self.clashes:
            paper = clash(self.whole, self.trials.places_of(lot))
            self.clashes[lot] = (paper, tuple(paper_places(self.whole, paper)))
        return self.clashes[lot]

    def paper(self, taken):
        """The paper for places that are taken. It goes deeper only as far as there are places."""
        if sum([weight_of(self.weights, place) for place in self.trials.places_of(taken)]) >= self.bound:
            return None
        if taken not in self.made:
            paper, places = self._clash(taken)
            self.made[taken] = (paper, tuple([self.paper(taken | self.trials.bits[place]) for place in places]))
        return self.made[taken]


def mend_paper(whole, weights=None):
    """A mend paper for the least weight of a mend."""
    trials, found, hit = cheapest(whole, weights)
    bound = sum([weight_of(weights, place) for place in trials.places_of(hit)])
    return PaperMaker(whole, trials, found, weights, bound).paper(0)


def papers_within(whole, value, taken):
    """The list of the tuples of the papers in any value that is made for taken places, and of what is taken there.

    None if the value has not the form of a mend paper, or its clash paper is not right.
    """
    if not isinstance(value, tuple) or len(value) != 2 or not is_paper(whole, value[0]):
        return None
    places = paper_places(whole, value[0])
    if not isinstance(value[1], tuple) or len(value[1]) != len(places):
        return None
    if any([place in taken for place in places]):
        return None
    return [(inner, {**taken, place: True}) for inner, place in zip(value[1], places)]


def is_mend_paper(whole, weights, bound, value):
    """Whether any value is a mend paper for a bound."""
    check_weights(whole, weights)
    waiting = [(value, {})]
    while waiting:
        paper, taken = waiting.pop()
        if sum([weight_of(weights, place) for place in taken]) >= bound:
            if paper is not None:
                return False
            continue
        inner = papers_within(whole, paper, taken)
        if inner is None:
            return False
        waiting.extend(inner)
    return True


def failed(whole, lot, *, word="cut"):
    """The whole in which each tree at a place of a lot is exchanged for `fail` and a word."""
    tables = {}
    for place in lot:
        check_tree_place(whole, place)
        tables.setdefault(place[0], {})[place[1]] = ("fail", word)
    trees = {owner: tree_with_all(whole.tree_at(owner), table) for owner, table in tables.items()}
    return changed_whole(whole, trees)
