"""Which definitions stand together, and the least lots of those that do not.

A lot is an integer with a bit for each of its definitions.
"""
from widestkind.demands import is_right
from widestkind.groundkinds import group_kinds
from widestkind.groups import grouped, in_turn, reached
from widestkind.hittings import least_and_hits


class Lots:
    """The definitions of a state. What is worked out of them is kept.

    `right` tells which of them speak only of what is there, `web` which others they use. `solved` has what is known
    of groups: by the first definition of a group, and the lot of all that it uses within a greater lot, directly or
    through others, the dict of the kinds of the group, or None if it has none.
    """

    def __init__(self, state):
        self.book = state.book
        self.order = sorted(state.entries)
        self.bits = {name: 1 << index for index, name in enumerate(self.order)}
        self.right = {name: is_right(state.book, entry, name) for name, entry in state.entries.items()}
        self.web = {}
        for name, entry in state.entries.items():
            self.web[name] = [word for word in entry.free_names() if word in self.bits]
        self.solved = {}
        self._take_over(state)
        self.known = None

    def _take_over(self, state):
        """Takes in what the state tells of its groups."""
        for name, group in state.group_of.items():
            if group.members[0] == name and state.told[name][0] in ("kind", "clash"):
                kinds = None
                if state.has_kind(name):
                    kinds = {one: state.told[one][1] for one in group.members}
                self.solved[(name, self.lot(list(reached(self.web, [name]))))] = kinds

    def lot(self, names):
        """The lot of a list of names."""
        found = 0
        for name in names:
            found |= self.bits[name]
        return found

    def names_in(self, lot):
        """The ascending list of the names of a lot."""
        return [name for name in self.order if lot & self.bits[name]]

    def clash_in(self, lot):
        """A lot within a lot that does not stand, or None if the lot stands."""
        names = self.names_in(lot)
        for name in names:
            if not self.right[name]:
                return self.bits[name]
        uses = {one: [word for word in self.web[one] if lot & self.bits[word]] for one in names}
        kinds = {}
        for group in in_turn(grouped(uses), uses):
            within = self.lot(list(reached(uses, group)))
            found = self._solved(group, within, kinds)
            if found is None:
                return within
            kinds.update(found)
        return None

    def _solved(self, group, within, kinds):
        """The kinds of a group, where those of the other definitions in a lot are known; None if it has none."""
        if (group[0], within) not in self.solved:
            known = {word: kinds.get(word) for name in group for word in self.web[name] if word not in group}
            self.solved[(group[0], within)] = group_kinds(self.book, group, known)
        return self.solved[(group[0], within)]

    def least_in(self, lot):
        """A least lot that does not stand within a lot, or None if the lot stands."""
        clash = self.clash_in(lot)
        if clash is None:
            return None
        for name in self.names_in(clash):
            if clash & self.bits[name]:
                less = self.clash_in(clash - self.bits[name])
                clash = clash if less is None else less
        return clash

    def lots_and_cures(self):
        """The lists of all least lots that do not stand, and of all least lots without which the others stand."""
        if self.known is None:
            found, hits = least_and_hits(self.lot(self.order), self.least_in)
            self.known = (self._in_order(found), self._in_order(hits))
        return self.known

    def _in_order(self, lots):
        """Lots as tuples of names, those with fewer names first, then in ascending order."""
        rows = [tuple(self.names_in(lot)) for lot in lots]
        return [row for _, row in sorted([(len(one), one) for one in rows])]
