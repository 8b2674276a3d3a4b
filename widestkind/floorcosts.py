"""The least numbers of deeds by which stretches of tokens become forms, and what is left of rows."""
from widestkind.healrows import FORMS, Grammar, fits_symbol, stand_in

# More than any number of deeds that is needed.
MUCH = 1000000


class Costs:
    """The least numbers, by the index `begin * width + end` of a stretch.

    `forms` has the lists of the forms. `ahead` has by states the lists of what is left of rows, `placed` those of
    what is left behind a first token that has its place, so that only tokens that are left out may come before it.
    If `table` is a dict like a table of floors, the numbers of its forms are those of the dict.
    """

    def __init__(self, tokens, table):
        self.tokens = tokens
        self.width = len(tokens) + 1
        self.grammar = Grammar()
        self.table = table
        self.forms = {form: self._new_list() for form in self.grammar.firsts}
        self.ahead = [self._new_list() for _ in self.grammar.symbols]
        self.placed = [self._new_list() for _ in self.grammar.symbols]
        self.fitting = {symbol: [fits_symbol(symbol, token) for token in tokens] for symbol in self.grammar.symbols}
        self.states = [state for state in range(1, len(self.grammar.symbols)) if not self.grammar.is_form(state)]
        self.form_states = {state: True for state in range(1, len(self.grammar.symbols)) if self.grammar.is_form(state)}
        for length in range(self.width):
            for begin in range(self.width - length):
                self._fill(begin, begin + length)

    def _new_list(self):
        return [MUCH] * (self.width * self.width)

    def _fill(self, begin, end):
        """Finds the numbers of a stretch, of which those of shorter ones are known."""
        at = begin * self.width + end
        if begin == end:
            self.ahead[0][at] = 0
        if self.table is not None:
            for form in FORMS:
                self.forms[form][at] = self.table[(form, begin, end)]
        if begin < end:
            self._take_first(begin, at)
            self._cut(begin, end)
        while self._relax(begin, end):
            pass

    def _take_first(self, begin, at):
        """Takes the first token of a stretch for the first token of states, or leaves it out."""
        inner = at + self.width
        for state in self.states:
            cost = 0 if self.fitting[self.grammar.symbols[state]][begin] else 1
            self.ahead[state][at] = min(cost + self.placed[state][inner], 1 + self.ahead[state][inner])
            self.placed[state][at] = 1 + self.placed[state][inner]

    def _cut(self, begin, end):
        """Cuts a stretch in two that are not empty, one for the form that comes first in states."""
        at = begin * self.width + end
        for state in self.form_states:
            row = self.forms[self.grammar.symbols[state]]
            left = self.ahead[self.grammar.behind_state[state]]
            best = MUCH
            first = begin * self.width
            for middle in range(begin + 1, end):
                total = row[first + middle] + left[middle * self.width + end]
                if total < best:
                    best = total
            self.ahead[state][at] = best

    def _relax(self, begin, end):
        """Lets the numbers of a stretch become less by each other; returns whether a form's number has."""
        at = begin * self.width + end
        for state, symbol in enumerate(self.grammar.symbols):
            left = self.ahead[self.grammar.behind_state[state]]
            total = left[at] + 1
            if state in self.form_states:
                row = self.forms[symbol]
                total = min(row[begin * self.width + begin] + left[at], row[at] + left[end * self.width + end])
            elif left[at] < self.placed[state][at]:
                self.placed[state][at] = left[at]
            if total < self.ahead[state][at]:
                self.ahead[state][at] = total
        changed = False
        for form, states in self.grammar.firsts.items():
            best = min([self.ahead[state][at] for state in states])
            if best < self.forms[form][at] and (self.table is None or form not in FORMS):
                self.forms[form][at] = best
                changed = True
        return changed

    def need(self, form, begin, end):
        """The least number to which the rows of a form come for a stretch."""
        at = begin * self.width + end
        return min([self.ahead[state][at] for state in self.grammar.firsts[form]])


class Ways:
    """The ways in which stretches become forms with the least numbers of deeds.

    What becomes something is a tuple: `("form", form, begin, end)`, or `("ahead", state, begin, end)` and
    `("placed", state, begin, end)` as Costs tell. A choice is a tuple of deeds and of what comes behind them.
    """

    def __init__(self, costs):
        self.costs = costs
        self.grammar = costs.grammar

    def cost(self, what):
        """The least number of deeds."""
        sort, key, begin, end = what
        at = begin * self.costs.width + end
        if sort == "form":
            return self.costs.forms[key][at]
        return self.costs.ahead[key][at] if sort == "ahead" else self.costs.placed[key][at]

    def choices(self, what):
        """The list of the choices that come to the least number of deeds."""
        found = []
        for deeds, inner in self._all_choices(what):
            if len(deeds) + sum([self.cost(one) for one in inner]) == self.cost(what):
                found.append((deeds, inner))
        return found

    def _all_choices(self, what):
        sort, key, begin, end = what
        if sort == "form":
            return [((), [("ahead", state, begin, end)]) for state in self.grammar.firsts[key]]
        if key == 0:
            return [((), [])]
        left = self.grammar.behind_state[key]
        if sort == "placed":
            found = [((), [("ahead", left, begin, end)])]
            if begin < end:
                found.append((((begin, "drop", ""),), [("placed", key, begin + 1, end)]))
            return found
        symbol = self.grammar.symbols[key]
        if self.grammar.is_form(key):
            pairs = [[("form", symbol, begin, cut), ("ahead", left, cut, end)] for cut in range(begin, end + 1)]
            return [((), pair) for pair in pairs]
        found = [(((begin, "put", stand_in(symbol)),), [("ahead", left, begin, end)])]
        if begin < end:
            fits = self.costs.fitting[symbol][begin]
            deeds = () if fits else ((begin, "swap", stand_in(symbol)),)
            found.append((deeds, [("placed", key, begin + 1, end)]))
            found.append((((begin, "drop", ""),), [("ahead", key, begin + 1, end)]))
        return found

    def first_way(self, what):
        """The list of the deeds of one way."""
        found = []
        waiting = [what]
        while waiting:
            deeds, inner = self.choices(waiting.pop())[0]
            found.extend(list(deeds))
            waiting.extend(inner[::-1])
        return found

    def all_ways(self, what, most):
        """The list of the tuples of the deeds of all ways, each once; None if there are more than so many."""
        known = {}
        waiting = [what]
        while waiting:
            one = waiting[-1]
            if one in known:
                waiting.pop()
                continue
            choices = self.choices(one)
            missing = [inner for _, inners in choices for inner in inners if inner not in known]
            if missing:
                waiting.extend(missing)
                continue
            known[one] = joined_ways(choices, known, most)
            if known[one] is None:
                return None
        return known[what]


def joined_ways(choices, known, most):
    """The list of the tuples of deeds of choices, of which the ways of what comes behind are known; or None."""
    found = {}
    for deeds, inner in choices:
        ways = {deeds: True}
        for one in inner:
            ways = {(*way, *further): True for way in ways for further in known[one]}
        for way in ways:
            found[way] = True
        if len(found) > most:
            return None
    return list(found)
